import PyProof.Rows.All
import Wide.All
import OpenK.AllK
import Wide.FinOn
import HandS.ForMost
import HandS.IsInst
import HandS.Walk
import HandS.Defaults
import HandS.RaiseMore
import HandS.Wide
import HandS.Exc
import HandS.ExcOwn
import HandS.ExcInit
import HandS.ExcSuper
import KE.KExcSuper
import HandS.ExcValue
import HandS.ExcIs
import HandS.ExcField
import HandS.GenList
import HandS.WordsExc
import HandS.HotCalls
import HandS.Comp
import HandS.Deep
import HandS.SortInts
import HandS.Strs
import HandS.Set
import HandS.SetBool
import HandS.Style
import HandS.GenBody
import HandS.GenYield
import PyProof.GenComp
import PyProof.ForAny
import HandS.SetFor
import HandS.Zip
import HandS.Conv
import HandS.Iter
import HandS.More
import PySem.Challenge.RW_squeezelists_k15_lists_read_back
set_option Elab.async false
set_option linter.all false
set_option maxRecDepth 100000
set_option maxHeartbeats 2000000
/-! The layer for the laws: a def of the law run at the outermost call (where no repr is under way), repr of data, calls by keywords alone. -/
namespace Sq
open PySem PySem.Spec PyProof.Rows L2

/-! ### the law's own def, at one given surrounding -/
theorem fnAt {CX : CXT} {P : Program} {w : World} {K : PySem.W.Frag} {mg : Str → Option Value} {base : Heap} {k : Nat} {f : Addr} {nmF qualF : Str} {prm : Arguments} {bd : List Stmt} {scp : Scope}
    {dflt kwd docv pmv cdv ctv ocv : Value} {anv odv : Option Addr} {slv : Array (Option Value)} {names prs : List Str} {sp : Sp} {A : Around}
    (stands : K.lookup f = some ⟨ocv, odv, .func (PySem.W.fnOf nmF qualF prm bd scp dflt kwd docv pmv anv cdv ctv), slv⟩)
    (code : PySem.W.codeIn K cdv qualF = true) (sc : FnScope names prs scp)
    (count : ∀ vs H Q E, sp vs H Q E → vs.length = prs.length)
    (inner : ∀ (outer : List Env) (s : Shared) (H : Hp) (vs : List V) (Q : VK) (E : XK), Room k (A.deeper (envOfC qualF scp s.heap.objs.size f cdv)) → sp vs H Q E →
      ∃ t, PSs (cxOf CX P w K mg base names qualF scp f cdv A outer s H E) bd t ∧ t { nx := fun _ H' => Q .non H', rt := Q } (start names vs) H)
    {outer : List Env} {s : Shared} {H : Hp} {ag : Args} {us : List Value} {vs : List V} {Q : VK} {E : XK}
    (room : Room (k + 1) A) (entry : Env0 P w K mg base A outer s H)
    (bound : BindsTo s (PySem.W.fnOf nmF qualF prm bd scp dflt kwd docv pmv anv cdv ctv) ag (prs.zip us)) (rel : Vals vs us) (wish : sp vs H Q E) :
    codeAny (model P w) A (.call (.ref f) ag) (CR CX outer P w H s Q E) s := by
  have written : K.In s.heap := entry.mod.kin.keeps (fun b o e => (entry.bs b o e).1)
  have roomy : s.heap.NoLimit := entry.mod.nolimit.keeps (fun b o e => (entry.bs b o e).1)
  refine codeAny_call_function room.depth (written _ _ stands) rfl sc.co sc.gen rfl (PySem.W.codeRec_of written code) (bound _ _ _ _ ?_)
  refine wpAny_newFunctionEnv_cells sc.kind ?kinds ?body
  case kinds =>
    rintro ⟨n, v⟩ hn
    have inP := (List.of_mem_zip hn).1
    cases sc.par n inP with
    | inl q => exact Or.inl q
    | inr q => exact Or.inr ⟨q, PySem.W.cellsFrom_some _ _ _ (Or.inl q)⟩
  case body =>
    intro env eqn s1 fresh
    subst eqn
    refine ⟨roomy.keeps fresh.toInCall.keep, codeAny_func ?_⟩
    obtain ⟨t, steps, holds⟩ := inner outer s H vs Q E (room.deeper _) wish
    have inv := inv_start (CX := CX) (mg := mg) (base := base) (E := E) sc room.hd entry (count _ _ _ _ wish) rel fresh
    refine wpAny_mono (steps.run [] s1 (start names vs) H _ inv holds) ?_ (fun _ _ q => q)
    intro flow s' got
    cases flow with
    | ret u =>
      obtain ⟨v, σ', H', J, rv, q⟩ := got
      exact ⟨v, H', J.os, J.bare, J.base, J.hok, rv, q⟩
    | next =>
      obtain ⟨σ', H', J, q⟩ := got
      exact ⟨V.non, H', J.os, J.bare, J.base, J.hok, rfl, q⟩
    | brk => exact got.elim fun _ h => h.elim fun _ h => False.elim h.2
    | cont => exact got.elim fun _ h => h.elim fun _ h => False.elim h.2

/-- what the top's def promises at the outermost call alone -/
def Top (P : Program) (w : World) (K : PySem.W.Frag) (mg : Str → Option Value) (base : Heap) (k : Nat) (f : Addr) (fd : FuncData) (x : Str) (sp : Sp) : Prop :=
  ∀ (s : Shared) (H : Hp) (ag : Args) (u : Value) (v : V) (Q : VK), Env0 P w K mg base callerA [] s H → BindsTo s fd ag [(x, u)] → RelV v u → sp [v] H Q (fun _ _ _ => False) →
    codeAny (model P w) callerA (.call (.ref f) ag) (CR CX0 [] P w H s Q (fun _ _ _ => False)) s

theorem atTop {P : Program} {w : World} {K : PySem.W.Frag} {mg : Str → Option Value} {base : Heap} {k : Nat} {f : Addr} {fd : FuncData} {x y qual : Str} {st : Stmt} {names : List Str} {sp : Sp}
    (F : Fun K y qual st f fd) (sc : FnScope names [x] (defScope st)) (room : Room (k + 1) callerA) (count : ∀ vs H Q E, sp vs H Q E → vs.length = 1)
    (inner : ∀ (cdv : Value) (outer : List Env) (s : Shared) (H : Hp) (vs : List V) (Q : VK) (E : XK), Room k (callerA.deeper (envOfC qual (defScope st) s.heap.objs.size f cdv)) → sp vs H Q E →
      ∃ t, PSs (cxOf CX0 P w K mg base names qual (defScope st) f cdv callerA outer s H E).nox (defBody st) t ∧ t { nx := fun _ H' => Q .non H', rt := Q } (start names vs) H) :
    Top P w K mg base k f fd x sp := by
  intro s H ag u v Q e0 hb hv hs
  obtain ⟨oc, od, kV, doc, pm, an, cdv, ct, osl, rfl, lk, hcd⟩ := F.ex
  refine fnAt (us := [u]) (vs := [v]) lk hcd sc count (fun outer s' H' vs' Q' E' room' wish => ?_) room e0 hb (.cons hv .nil) hs
  obtain ⟨t, h, q⟩ := inner cdv outer s' H' vs' Q' E' room' wish
  exact ⟨t, h.nox, q⟩

/-- from the def's promise at the outermost call to the row's claim about that call -/
theorem lawAt {P : Program} {w : World} {K : PySem.W.Frag} {mg mb : Str → Option Value} {k : Nat} {fa a : Addr} {fd : FuncData} {x : Str} {sp : Sp} {s₁ : Shared} {cells : List Value} {nums : List Int}
    (inK : K.In s₁.heap) (nsM : s₁.heap.Ns mainGlobals mg) (nsB : s₁.heap.Ns builtinsNs mb) (boot : ∀ y : Str, y ≠ "__name__" → mb y = bootBuiltins y) (lim : s₁.heap.NoLimit) (gens : s₁.gens = #[])
    (script : s₁.heap.get? a = some { cls := .type "list", data := .seq cells.toArray }) (are : IntsAre cells nums) (few : nums.length ≤ sizeLine)
    (main : ∀ base : Heap, K.In base → base.Ns mainGlobals mg → Top P w K mg base k fa fd x sp) (binds : ∀ (s : Shared) (u : Value), BindsTo s fd ⟨[u], []⟩ [(x, u)])
    (told : ∀ H : Hp, Only H → SqL K H a (nums.map V.int) → sp [.ref a] H (fun v _ => v = .bl true) fun _ _ _ => False) :
    codeAny (model P w) callerA (.call (.ref fa) ⟨[.ref a], []⟩) (fun r s' => r = .ok (.ret (.bool true)) ∧ OldK s₁.heap s'.heap ∧ s'.os = s₁.os ∧ AllBare s'.gens) s₁ := by
  have rel := vals_ints are
  have same := are.length
  suffices goal : ∀ H : Hp, Only H → SqL K H a (nums.map V.int) → HOk P w H s₁.heap → (∀ b o, H b = some o → b = a ∧ K.lookup a = none) →
      codeAny (model P w) callerA (.call (.ref fa) ⟨[.ref a], []⟩) (fun r s' => r = .ok (.ret (.bool true)) ∧ OldK s₁.heap s'.heap ∧ s'.os = s₁.os ∧ AllBare s'.gens) s₁ by
    cases look : K.lookup a with
    | some o =>
      have here := inK a o look
      rw [script] at here
      cases here
      exact goal (fun _ => none) (fun _ => Or.inl rfl) (Or.inr ⟨_, cells.toArray, _, look, rfl, rfl, rfl, (by rw [List.size_toArray, same]; exact few), (by simpa using rel)⟩) (fun b u z => by cases (show (none : Option HO) = some u from z)) (fun b o z => by cases (show (none : Option HO) = some o from z))
    | none =>
      let Ha : Hp := fun b => if b = a then some (.frz { cls := .type "list", data := .seq cells.toArray } (.lst (nums.map V.int))) else none
      have at_a : Ha a = some (.frz { cls := .type "list", data := .seq cells.toArray } (.lst (nums.map V.int))) := if_pos rfl
      have off : ∀ b o, Ha b = some o → b = a := fun b o z => by
        by_cases hb : b = a
        · exact hb
        · rw [show Ha b = none from if_neg hb] at z
          cases z
      refine goal Ha (fun b => ?_) (Or.inl (Or.inr ⟨_, at_a⟩)) (fun b u z => ?_) (fun b o z => ⟨off b o z, look⟩)
      · by_cases hb : b = a
        · exact Or.inr ⟨_, _, if_pos hb⟩
        · exact Or.inl (if_neg hb)
      · obtain rfl := off b u z
        rw [at_a] at z
        cases z
        exact ⟨script, by rw [List.length_map]; exact few, cells, _, rel, script⟩
  intro H only seq hok apart
  have free : ∀ {b : Addr} {o : Obj}, s₁.heap.get? b = some o → (∀ u, H b = some u → False) → (hidT s₁.heap H).get? b = some o := fun {b o} e n =>
    hidT_get e (by
      cases q : H b with
      | none => rfl
      | some u => exact (n u q).elim)
  have nsH : ∀ {b : Addr} {m : Str → Option Value}, s₁.heap.Ns b m → (hidT s₁.heap H).Ns b m := by
    rintro b m ⟨o, es, ep, e, d, r⟩
    refine ⟨o, es, ep, free e fun u z => ?_, d, r⟩
    obtain ⟨rfl, _⟩ := apart b u z
    rw [script] at e
    cases e
    cases (show Data.seq cells.toArray _ = Data.dict es ep from d)
  have kH : K.In (hidT s₁.heap H) := fun b o e => free (inK b o e) fun u z => by
    obtain ⟨rfl, n⟩ := apart b u z
    rw [n] at e
    cases e
  have mod : Mod K mg (hidT s₁.heap H) := ⟨kH, nsH nsM, ⟨mb, nsH nsB, boot⟩, let ⟨mc, h1, h2⟩ := lim; ⟨mc, nsH h1, h2⟩⟩
  have entry : Env0 P w K mg (hidT s₁.heap H) callerA [] s₁ H :=
    ⟨rfl, mod, fun b o e => of_hidT e, Nat.le_of_eq (hidT_size _ _), trivial, fun b hb => absurd (show b ∈ ([] : List Addr) from hb) (by simp), hok, .of_eq gens⟩
  refine codeAny_mono (main _ kH (nsH nsM) s₁ H ⟨[.ref a], []⟩ (.ref a) (.ref a) _ entry (binds s₁ (.ref a)) rfl (told H only seq)) ?_
  intro r s' got
  match r, got with
  | .ok (.ret u), got =>
    obtain ⟨v, H', os, bare, un, hok', rv, q⟩ := got
    obtain rfl : v = .bl true := q
    obtain rfl : u = Value.bool true := rv
    refine ⟨rfl, OldK.of_keep fun b o e => ?_, os, bare⟩
    rcases only b with z | ⟨ob, xs, z⟩
    · exact un.keep b o e z (by intro y; exact absurd (show b ∈ ([] : List Addr) from y) (by simp)) (by simp)
    · obtain ⟨e1, _⟩ := hok b _ z
      obtain ⟨e2, _⟩ := hok' b _ (un.frzs b ob _ z)
      rw [e] at e1
      cases e1
      exact e2

/-- the goal that k_head leaves, from the law's promise at the outermost call -/
theorem walkAt {l : PySem.W.OpenLaw} {n k : Nat} {q : Program} {loose : List Str} {XP : (Str → Option Value) → Heap → Prop} {YP : World → Heap → Prop} {d : DefRec} {K : Params → PySem.W.Frag} {sp : World → Sp} {x : Str}
    (most : l.most = some n) (line : n ≤ sizeLine) (plain : d.params.defaults = []) (inK : ∀ (w : World) (h : Heap), YP w h → (K w.params).In h)
    (F : ∀ (w : World) (mg : Str → Option Value) (fa : Addr) (h : Heap), (K w.params).In h → h.Ns mainGlobals mg → mg d.name = some (.ref fa) →
      ∃ fd : FuncData, (∀ (s : Shared) (u : Value), BindsTo s fd ⟨[u], []⟩ [(x, u)]) ∧ ∀ base : Heap, (K w.params).In base → base.Ns mainGlobals mg → Top l.prog w (K w.params) mg base k fa fd x (sp w))
    (told : ∀ (w : World) (H : Hp) (a : Addr) (ns : List Int), ns.length ≤ n → Only H → SqL (K w.params) H a (ns.map V.int) → sp w [.ref a] H (fun v _ => v = .bl true) fun _ _ _ => False) :
    PySem.W.WalkO q loose XP YP l.row.toRowW d [] (fun f vs => PySem.call f vs) := by
  refine Att.attach_call most plain ?_
  intro w s₀ s₁ mg mb fa o pm cd doc a vs ns G Y ho hd hcd hmg hobj hints hlen hg
  obtain ⟨fd, hb, hF⟩ := F w mg fa _ (inK w _ Y) G.T.g hmg
  exact lawAt (inK w _ Y) G.T.g G.T.b G.T.builtins G.T.nolimit hg hobj hints (Nat.le_trans hlen line) hF hb fun H hO hS => told w H a ns hlen hO hS

/-! ### repr of data, where no repr is under way -/
def rReprD (K : PySem.W.Frag) : List V → Hp → VK → Prop := fun xs H Q => ∃ a d, xs = [.ref a] ∧ Dp K H (.ref a) d ∧ d.showable = true ∧ d.hasDict = false ∧ d.depth ≤ 40 ∧ d.shown.length ≤ sizeLine ∧ Q (.str d.shown) H
theorem call_reprD {X : Cx} (hg : X.A.guards = some []) (hu : X.A.units + 64 < cLine) : CallR X (.builtin "repr") (rReprD X.K) := by
  intro pins s σ H xs us Q I r h
  obtain ⟨a, d, rfl, hd, sh, nd, dep, sz, q⟩ := h
  obtain ⟨u, rfl, rv⟩ := vals1 r
  obtain rfl : u = Value.ref a := rv
  obtain ⟨as, rd⟩ := Dp.reads I d _ _ hd (show RelV (.ref a) (.ref a) from rfl)
  refine repr_of_reads' rd sh (by rw [nd]; exact fun z => nomatch z) hg (by omega) (fun b o e => e) (fun h' u tk keep => ?_) sz
  exact ⟨.str _, H, I.kept keep, ⟨_, rfl⟩, q⟩

/-! ### f(k = v, ..): keywords alone -/
section
variable {X : Cx} {CX : CXT} {k : Nat} {f : Addr} {fd : FuncData} {ps ks : List Str} {sp : Sp} {E : XK} {x : Str} {p pos : Pos} {kws : List Keyword} {tk : TA} {g : List Value → List Value → List Value} {gV : List V → List V → List V}
theorem pe_callK0 (F : FnOk X.prog X.w X.K X.mg X.base CX k f fd ps sp) (hr : Room k X.A) (hg : Gl X x) (hm : X.mg x = some (.ref f)) (hk : PySem.W.keepIn X.K (.ref f) = true) (hb : KBn X.K fd ps 0 ks g gV) (hx : Passes CX X E) (hkw : PK X kws tk)
    (hall : (backToKw pos (keywordEach kws X.env)).all (·.1.isSome) = true := by rfl) (hks : (backToKw pos (keywordEach kws X.env)).filterMap (·.1) = ks := by rfl) (hdb : (x == ("__debug__" : Str)) = false := by decide)
    (hpl : ((backTo pos (starEach [] X.env)).any (·.1) || (backToKw pos (keywordEach kws X.env)).any (·.1.isNone)) = false := by rfl) :
    PE X (.Call (.Name x p) [] kws pos) (tCallN 0 ks.length sp gV E tNil tk) := by
  refine ⟨fun pins s σ H Q I h => ?_⟩
  refine wpAny_Call_Name_kw (ld_glob I hg hm ?_ hdb)
  refine PySem.W.callWith_KW0 (h₀ := X.base) I.ok.mod.kin hk hall ?_ hpl
  refine thn (hkw.run pos pins s σ H _ I h) ?_
  rintro ws s2 ⟨zs, H2, I2, rz, l1, l2, q2⟩
  refine ⟨I2.kIn, ?_⟩
  rw [hks]
  exact run_fnN F hr hb hx I2 (.nil) rz l1 l2 q2
end
end Sq

namespace Sq
open PySem PySem.Spec PyProof.Rows L2
/-- what a caller wants of a def of the text: it stands at its name and keeps its promise -/
structure Df (P : Program) (w : World) (K : PySem.W.Frag) (mg : Str → Option Value) (base : Heap) (k : Nat) (x : Str) (ps : List Str) (sp : Sp) : Prop where
  ex : ∃ f fd, FnOk P w K mg base CX0 k f fd ps sp ∧ mg x = some (.ref f) ∧ PySem.W.keepIn K (.ref f) = true ∧ Binds K fd ps []
section
variable {X : Cx} {k : Nat} {ps : List Str} {sp : Sp} {x : Str} {p pos : Pos} {e : Expr} {es : List Expr} {t : TA}
theorem pe_callD (D : Df X.prog X.w X.K X.mg X.base k x ps sp) (hr : Room k X.A) (hg : Gl X x) (ha : PA X (e :: es) t) (hdb : (x == ("__debug__" : Str)) = false := by decide)
    (he : starEach (e :: es) X.env = (false, eval e X.env) :: starEach es X.env := by rfl) (hpl : (backTo pos (starEach es X.env)).any (·.1) = false := by rfl) :
    PE X (.Call (.Name x p) (e :: es) [] pos) (tCall sp [] E0 t) := by
  obtain ⟨f, fd, F, g, kp, b⟩ := D.ex
  exact pe_call F hr hg g kp b .nil pass0 ha hdb he hpl
end
section
variable {P : Program} {w : World} {K : PySem.W.Frag} {mg : Str → Option Value} {base : Heap}
/-- a def without defaults, from its place in the text and its promise -/
theorem Df.mk' {k : Nat} {x : Str} {st : Stmt} {ps : List Str} {sp : Sp} {f : Addr} {fd : FuncData} (F : Fun K x x st f fd) (G : FnOk P w K mg base CX0 k f fd ps sp) (g : mg x = some (.ref f)) (b : Binds K fd ps []) : Df P w K mg base k x ps sp :=
  ⟨⟨f, fd, G, g, F.kp, b⟩⟩
end
end Sq

namespace Sq
open PySem PySem.Spec PyProof.Rows L2
/-- a def with defaults, no error leaves it -/
theorem okD {P : Program} {w : World} {K : PySem.W.Frag} {mg : Str → Option Value} {base : Heap} {x qual : Str} {prm : Arguments} {bd : List Stmt} {scp : Scope} {dvs : List V} {kws : List (Str × V)} {f : Addr} {fd : FuncData} {names ps : List Str} {k : Nat} {sp : Sp}
    (F : FunD K x qual prm bd scp dvs kws f fd) (sc : FnScope names ps scp) (count : ∀ vs H Q E, sp vs H Q E → vs.length = ps.length)
    (inner : ∀ (cdv : Value) (A : Around) (outer : List Env) (s : Shared) (H : Hp) (vs : List V) (Q : VK) (E : XK), Room k (A.deeper (envOfC qual scp s.heap.objs.size f cdv)) → sp vs H Q E →
      ∃ t, PSs (cxOf CX0 P w K mg base names qual scp f cdv A outer s H E).nox bd t ∧ t { nx := fun _ H' => Q .non H', rt := Q } (start names vs) H) : FnOk P w K mg base CX0 (k + 1) f fd ps sp :=
  F.ok sc count fun cdv A outer s H vs Q E hr h => let ⟨t, a, b⟩ := inner cdv A outer s H vs Q E hr h; ⟨t, a.nox, b⟩

/-- the same as Df for a call that leaves the last ones to their defaults dvs -/
structure Dv (P : Program) (w : World) (K : PySem.W.Frag) (mg : Str → Option Value) (base : Heap) (k : Nat) (x : Str) (ps : List Str) (dvs : List V) (sp : Sp) : Prop where
  ex : ∃ f fd ds, FnOk P w K mg base CX0 k f fd ps sp ∧ mg x = some (.ref f) ∧ PySem.W.keepIn K (.ref f) = true ∧ Vals dvs ds ∧ Binds K fd ps ds
/-- .. by keywords alone -/
structure Dk (P : Program) (w : World) (K : PySem.W.Frag) (mg : Str → Option Value) (base : Heap) (k : Nat) (x : Str) (ps ks : List Str) (gV : List V → List V → List V) (sp : Sp) : Prop where
  ex : ∃ f fd g, FnOk P w K mg base CX0 k f fd ps sp ∧ mg x = some (.ref f) ∧ PySem.W.keepIn K (.ref f) = true ∧ KBn K fd ps 0 ks g gV
section
variable {X : Cx} {k : Nat} {ps ks : List Str} {sp : Sp} {x : Str} {p pos : Pos} {e : Expr} {es : List Expr} {t tk : TA} {dvs : List V} {gV : List V → List V → List V} {kws : List Keyword}
theorem pe_callV (D : Dv X.prog X.w X.K X.mg X.base k x ps dvs sp) (hr : Room k X.A) (hg : Gl X x) (ha : PA X (e :: es) t) (hdb : (x == ("__debug__" : Str)) = false := by decide)
    (he : starEach (e :: es) X.env = (false, eval e X.env) :: starEach es X.env := by rfl) (hpl : (backTo pos (starEach es X.env)).any (·.1) = false := by rfl) :
    PE X (.Call (.Name x p) (e :: es) [] pos) (tCall sp dvs E0 t) := by
  obtain ⟨f, fd, ds, F, g, kp, hd, b⟩ := D.ex
  exact pe_call F hr hg g kp b hd pass0 ha hdb he hpl
theorem pe_callKD (D : Dk X.prog X.w X.K X.mg X.base k x ps ks gV sp) (hr : Room k X.A) (hg : Gl X x) (hkw : PK X kws tk)
    (hall : (backToKw pos (keywordEach kws X.env)).all (·.1.isSome) = true := by rfl) (hks : (backToKw pos (keywordEach kws X.env)).filterMap (·.1) = ks := by rfl) (hdb : (x == ("__debug__" : Str)) = false := by decide)
    (hpl : ((backTo pos (starEach [] X.env)).any (·.1) || (backToKw pos (keywordEach kws X.env)).any (·.1.isNone)) = false := by rfl) :
    PE X (.Call (.Name x p) [] kws pos) (tCallN 0 ks.length sp gV E0 tNil tk) := by
  obtain ⟨f, fd, g, F, hm, kp, b⟩ := D.ex
  exact pe_callK0 F hr hg hm kp b pass0 hkw hall hks hdb hpl
end
theorem vals_nil {ds : List Value} (h : Vals [] ds) : ds = [] := by
  cases h
  rfl
end Sq

namespace Sq
open PySem PySem.Spec PyProof.Rows L2
theorem vals_rev : ∀ {zs : List V} {ws : List Value}, Vals zs ws → Vals zs.reverse ws.reverse
  | [], [], _ => .nil
  | _ :: _, _ :: _, .cons h t => by
    rw [List.reverse_cons, List.reverse_cons]
    exact (vals_rev t).append (.cons h .nil)
/-- keywords, where the def has defaults and no keyword-only parameters -/
theorem kbinds' {K : PySem.W.Frag} {x qual : Str} {prm : Arguments} {bd : List Stmt} {scp : Scope} {dvs : List V} {f : Addr} {fd : FuncData} {ps : List Str}
    (F : FunD K x qual prm bd scp dvs [] f fd) (n : Nat) (ks : List Str) (g : List Value → List Value → List Value) (gV : List V → List V → List V) (hd : dvs ≠ [])
    (rel : ∀ {vs : List V} {us : List Value} {zs : List V} {ws : List Value}, Vals vs us → Vals zs ws → Vals (gV vs zs) (g us ws))
    (h : ∀ (T : Addr) (kV doc pm : Value) (an : Option Addr) (cdv ct : Value) (us its ws : List Value), us.length = n → its.length = dvs.length → ws.length = ks.length →
      ∃ k, bindArgs (PySem.W.fnOf x qual prm bd scp (.ref T) kV doc pm an cdv ct) ⟨us, ks.zip ws⟩ = seqItems? (.ref T) >>= k ∧ k (some its.toArray) = pure (ps.zip (g us ws))) : KBn K fd ps n ks g gV := by
  obtain ⟨oc, od, dV, kV, doc, pm, an, cdv, ct, osl, rfl, lk, hcd, hD, hK⟩ := F.ex
  rcases hD with ⟨e, _⟩ | ⟨_, T, o, its, m, rfl, lT, oT, rT⟩
  · exact absurd e hd
  · refine ⟨fun s us ws X l1 l2 => ?_, rel⟩
    obtain ⟨k, e1, e2⟩ := h T kV doc pm an cdv ct us its ws l1 rT.length.symm l2
    refine BindsTo.of_looks fun M => ?_
    rw [e1]
    exact looks_items X lT oT (.of_pure e2)
end Sq

namespace Sq
open PySem PySem.Spec PyProof.Rows L2
/-- a test whose ways are told apart from what follows -/
theorem tell {c : TT} {σ : L2.St} {H : Hp} {Q : Bool → Hp → Prop} (T F : Hp → Prop) (h : ∀ Q' : Bool → Hp → Prop, (∀ H2, T H2 → Q' true H2) → (∀ H2, F H2 → Q' false H2) → c σ H Q') (hT : ∀ H2, T H2 → Q true H2) (hF : ∀ H2, F H2 → Q false H2) : c σ H Q := h Q hT hF
/-- a value that is told apart from what follows -/
theorem tellV {c : TE} {σ : L2.St} {H : Hp} {Q : VK} (T : V → Hp → Prop) (h : ∀ Q' : VK, (∀ v H2, T v H2 → Q' v H2) → c σ H Q') (hT : ∀ v H2, T v H2 → Q v H2) : c σ H Q := h Q hT
/-- a statement that goes on alone -/
theorem tellS {c : TS} {D : Ends} {σ : L2.St} {H : Hp} (T : L2.St → Hp → Prop) (h : ∀ N : L2.St → Hp → Prop, (∀ σ2 H2, T σ2 H2 → N σ2 H2) → c { D with nx := N } σ H) (hT : ∀ σ2 H2, T σ2 H2 → D.nx σ2 H2) : c D σ H := h D.nx hT
end Sq

set_option Elab.async false
set_option linter.all false
set_option maxRecDepth 100000
set_option maxHeartbeats 2000000
/-! Own errors whose __init__ says super().__init__(..) and stores its argument as value. -/
namespace SqX
open PySem PySem.W PySem.Calls PyProof.Rows PySem.HandSPX
def xA (p1 p2 : Pos) : Arguments := { posonlyargs := [], args := [{ arg := "self", annotation := none, pos := p1 }, { arg := "value", annotation := none, pos := p2 }], vararg := none, kwonlyargs := [], kw_defaults := [], kwarg := none, defaults := [] }
def xB (msg : Str) (j : Nat) (q0 q1 q2 q3 q4 q5 r1 r2 r3 r4 : Pos) : List Stmt :=
  [.Expr (.Call (.Attribute (.Call (.Name "super" q0) [] [] q1) "__init__" q2) [.Constant (.str msg) j q3] [] q4) q5, .Assign [.Attribute (.Name "self" r1) "value" r2] (.Name "value" r3) r4]
def xS : Scope := { kind := .function, names := [(PySem.Str.ofString "self", .local), (PySem.Str.ofString "value", .local), (PySem.Str.ofString "__class__", .free), (PySem.Str.ofString "super", .globalImplicit)], isGenerator := false, isCoroutine := false, more := [] }
/-- what the written part says of such a class at C, of its __init__ at fI -/
structure Er (K : Frag) (prog : Program) (C fI : Addr) (q : Str) : Prop where
  cls : ∃ nm qn N bs bm sn sub ab col dd k0 k1 k2 k3 k5, K.lookup C = some (excClassObj nm qn C N bs bm true sn sub ab col dd k0 k1 k2 k3 k5 "ValueError.__new__") ∧ refsVE bm = true
  sa : findIn K (.ref C) "__setattr__" = some (some (.builtin "object.__setattr__"))
  noV : findIn K (.ref C) "value" = some none
  iC : findIn K (.ref C) "__init__" = some (some (.ref fI))
  tC : typeIn K (.ref fI) = some (.type "function")
  kC : keepIn K (.ref C) = true
  exC : subIn K (.ref C) (.type "BaseException") = some true
  veC : subIn K (.ref C) (.type "ValueError") = some true
  tyC : typeIn K (.ref C) = some (.type "type")
  mC : mroIn K C (.ref C) = some true
  suC : ks_superIn K C C "__init__" = some (some (.builtin "ValueError.__init__"))
  third : nsIn K cStatics "thirdparty.any" = some none
  super : nsIn K mainGlobals "super" = some none
  top : (prog.main.scope.names.lookup ("super" : Str)).isSome = false
  fn : ∃ (oc : Value) (od : Option Addr) (doc pm : Value) (an : Option Addr) (ct : Value) (osl : Array (Option Value)) (cda cc : Addr) (msg : Str) (j : Nat) (p1 p2 q0 q1 q2 q3 q4 q5 r1 r2 r3 r4 : Pos) (ccl : Value) (cdd : Option Addr) (vs : Array Value) (ccs : Array (Option Value)) (file : Str) (tf : Tok) (cl : Value) (cld : Option Addr) (csl : Array (Option Value)),
    K.lookup fI = some ⟨oc, od, .func (ksFn "__init__" q (xA p1 p2) (xB msg j q0 q1 q2 q3 q4 q5 r1 r2 r3 r4) xS .none .none doc pm an (.ref cda) ct cc), osl⟩ ∧ codeIn K (.ref cda) q = true ∧
    K.lookup cda = some ⟨ccl, cdd, .fields vs, ccs⟩ ∧ vs[2]? = some (.str file tf) ∧ ((prog.main.file : Str) == file) = true ∧ K.lookup cc = some ⟨cl, cld, .cell (some (.ref C)), csl⟩ ∧ (q2.endLine == q4.line) = true
/-- what __init__ leaves of a fresh exception at x -/
structure Inited (h h' : Heap) (x C dx t1 : Addr) (v : Value) : Prop where
  keep : ∀ b o, b ≠ x → h.get? b = some o → h'.get? b = some o
  obj : h'.get? x = some { cls := .ref C, dict := some dx, data := .fields #[.ref t1, .none, .none, .none, .bool false, .none] }
  dbig : h.objs.size ≤ dx
  dne : dx ≠ x
  ns : h'.Ns1 dx (fun y => if y = "value" then some v else none)
theorem one_size (v : Value) : [v].length ≤ sizeLine := by
  rw [sizeLine_eq]
  exact (by decide : 1 ≤ 16777216)
theorem call_is {o e : Expr} {name : Str} {apos pos : Pos} {env : Env} (hline : (apos.endLine == pos.line) = true) (he : starEach [e] env = [(false, eval e env)]) :
    eval (.Call (.Attribute o name apos) [e] [] pos) env = (do
      let ov ← attributeBase o name env (eval o env)
      standAt apos.atName
      let (f, first) ← holding [ov] (getMethod ov name (do return (← importBound o env).getD true))
      callWith pos f first (backTo pos (starEach [e] env)) []) := by
  rw [arm_eval_Call]
  have hf : methodCallForm 1 (backTo pos (starEach [e] env)) (backToKw pos (keywordEach [] env)) = true := by
    rw [he]
    rfl
  have hp : methodCallPos true o env apos pos = pure pos := by
    unfold methodCallPos
    simp [hline]
  refine congrArg _ (funext fun ov => congrArg _ (funext fun _ => ?_))
  show methodCall o name apos pos env ov 1 (backTo pos (starEach [e] env)) (backToKw pos (keywordEach [] env)) = _
  unfold methodCall
  rw [hf, hp]
  rfl
/-- the bound ValueError.__init__ called: the args are laid anew -/
theorem call_mw {prog : Program} {w : World} {A : Around} {E : Value → Shared → Prop} {h : Heap} {g : Array GenState} {d : Drawn} {t : Nat} {os : OsState}
    {nm qn : Str} {C N : Addr} {bs bm : List Value} {hdct : Bool} {sn : List Str} {sub : List Value} {ab : Bool} {col : Option Bool} {dd : Option Addr} {k0 k1 k2 k3 k5 : Option Value} {u e t0 : Addr} {rest : List Value} {Q : Value → Shared → Prop}
    (atC : h.get? C = some (excClassObj nm qn C N bs bm hdct sn sub ab col dd k0 k1 k2 k3 k5 "ValueError.__new__")) (atE : h.get? e = some (excO C t0)) (atU : h.get? u = some (kxs_mw "ValueError.__init__" e)) (line : rest.length ≤ sizeLine)
    (fin : ∀ h' t1, (∀ b o, b ≠ e → h.get? b = some o → h'.get? b = some o) → h'.get? e = some (excO C t1) → Q .none ⟨h', g, d, t, os⟩) :
    wpAny (model prog w) A (call (.ref u) rest) Q E ⟨h, g, d, t, os⟩ := by
  refine wpAny_call (codeAny_of_tree ?_)
  show wpAny _ A.in1 (callAny (.ref u) ⟨rest, []⟩) _ _ _
  simp only [callAny]
  refine wpAny_bind (wpAny_load atU ?_)
  simp only [kxs_mw, show (Value.type "method-wrapper" == Value.type "method" || Value.type "method-wrapper" == Value.type "builtin_function_or_method" || Value.type "method-wrapper" == Value.type "method-wrapper") = true by decide, if_true]
  refine W.KFB.if_so (by decide) ?_
  refine wpAny_bind (ESX.check_bound F.excBase_ValueError atC atE rfl ?_)
  refine wpAny_bind (wpAny_pure (wpAny_pure ?_))
  refine ⟨Code.quiet_builtin _ (by decide +kernel), codeAny_builtin F.excBase_ValueError.initEntry ?_⟩
  rw [Around.under_plainId F.excBase_ValueError.init.plain _]
  wp_walk
  refine fin _ h.objs.size (fun b o nb hb => ?_) ?_
  · exact (Heap.get?_update_other _ _ (Ne.symm nb)).trans (Heap.get?_push_of_some _ hb)
  · exact (Heap.get?_update_self _ (Heap.get?_push_of_some _ atE) rfl).trans rfl
section
variable {prog : Program} {w : World} {A : Around} {E : Value → Shared → Prop} {R : Result → Shared → Prop} {s : Shared} {K : Frag} {mg : Str → Option Value} {base : Heap} {C fI : Addr} {q : Str}
theorem init (T : Er K prog C fI q) {x t0 : Addr} {v : Value} {args : Args} (X : K.In s.heap) (hg : s.heap.Ns mainGlobals mg) (hlim : s.heap.NoLimit) {mb : Str → Option Value} (hb : s.heap.Ns builtinsNs mb) (boot : ∀ y : Str, y ≠ "__name__" → mb y = bootBuiltins y)
    (hx : s.heap.get? x = some (excO C t0)) (hnx : K.lookup x = none) (hroom : A.depth < recursionLimit)
    (hargs : ∀ fd : FuncData, (∃ p1 p2 bd doc pm an cda ct cc, fd = ksFn "__init__" q (xA p1 p2) bd xS .none .none doc pm an (.ref cda) ct cc) → BindsTo s fd args [("self", .ref x), ("value", v)])
    (hq : ∀ h' tk dx t1, Inited s.heap h' x C dx t1 v → R (.ok (.ret .none)) { s with heap := h', toks := tk }) :
    codeAny (model prog w) A (.call (.ref fI) args) R s := by
  obtain ⟨oc, od, doc, pm, an, ct, osl, cda, cc, msg, j, p1, p2, q0, q1, q2, q3, q4, q5, r1, r2, r3, r4, ccl, cdd, vs, ccs, file, tf, cl, cld, csl, ho, hcd, hcode, hvs, hfile, hcell, hline⟩ := T.fn
  obtain ⟨nm, qn, N, bs, bm, sn, sub, ab, col, dd, k0, k1, k2, k3, k5, hC, hbm⟩ := T.cls
  have hcl : clsIn K C = some { name := nm, bases := bs, mro := .ref C :: bm, ns := N, qualname := qn, hasDict := true, slotNames := sn, subclasses := sub, abstract := ab, collection := col, hasDel := false } := by unfold clsIn; rw [hC] <;> rfl
  refine ks_codeAny_call_defAt (fd := ksFn "__init__" q (xA p1 p2) (xB msg j q0 q1 q2 q3 q4 q5 r1 r2 r3 r4) xS .none .none doc pm an (.ref cda) ct cc) (binds := [("self", .ref x), ("value", v)]) hroom (X _ _ ho) rfl hlim (codeRec_of X hcd) rfl
    (hargs _ ⟨_, _, _, _, _, _, _, _, _, rfl⟩) (show ∀ x ∈ xS.names, x.2 ≠ .cell by decide) (fun y hy => ?loc) (fun h₁ hns k => ?_)
  case loc =>
    rcases List.mem_cons.mp hy with rfl | hy
    · exact (show xS.names.lookup ("self" : Str) = some .local by decide)
    · obtain rfl := List.mem_singleton.mp hy
      exact (show xS.names.lookup ("value" : Str) = some .local by decide)
  have X₁ : K.In h₁ := X.keeps k
  have hx₁ := k _ _ hx
  obtain ⟨hh, g, d, t, os⟩ := s
  show _root_.PySem.wpAt _ _ _ (execs (xB msg j q0 q1 q2 q3 q4 q5 r1 r2 r3 r4) _) _ _ _
  refine ks_wpAt_execs_cons (ks_wpAt_Expr_any (ks_wpAt_MethodCall ?_ (call_is hline rfl)))
  obtain ⟨oD, hD1, hD2⟩ : ∃ oD, h₁.get? C = some oD ∧ ∃ cdD, oD.data = .cls cdD := ⟨_, X₁ _ _ hC, _, rfl⟩
  obtain ⟨cdD, hD2⟩ := hD2
  have I₁ : InstAt h₁ x (excO C t0) C none := ⟨hx₁, rfl, rfl, trivial⟩
  refine ks_wpAt_super_base (f := fI) (cc := cda) rfl rfl rfl rfl (X₁ _ _ ho) rfl rfl rfl (X₁ _ _ hcode) rfl hvs hfile T.top ?_
  refine ks_loadName_global rfl rfl (loadGlobal_builtin (hg.keeps k) (mg_none_of X hg T.super) (hb.keeps k) ((boot _ (by decide +kernel)).trans (by decide +kernel)) ⟨rfl, ?_⟩)
  refine wpAny_loadName_free rfl rfl rfl ⟨_, X₁ _ _ hcell, rfl⟩ ?_
  refine wpAny_loadName_local (v := .ref x) rfl rfl hns rfl ?_
  refine ks_wpAny_isType_cls hD1 hD2 ⟨rfl, ?_⟩
  refine ks_wpAny_call_super hD1 hD2 I₁.at_ I₁.cls (fun c e => by cases e) (looks_mroIn X₁ T.mC) (fun h₂ e₂ k₂ => ?_)
  have X₂ : K.In h₂ := X₁.keeps k₂
  have hx₂ := k₂ _ _ hx₁
  have I₂ : InstAt h₂ x (excO C t0) C none := ⟨hx₂, rfl, rfl, trivial⟩
  have al := T.suC
  unfold ks_superIn at al
  rw [hcl] at al
  refine kxs_getMethod kxs_ValueError e₂ (looks_opaque X₂ T.third) (l₀ := .ref C :: bm) ((looks_clsIn X₂ hcl).andThen .now) rfl X₂ al (I₂.type.andThen (looks_subIn X₂ T.veC)) (ks_ne X₂ I₂ hcl) (by decide) ?_
  have k₃ : ∀ b o, h₂.get? b = some o → (h₂.push (kxs_mw "ValueError.__init__" x)).get? b = some o := fun b o e => Heap.get?_push_of_some _ e
  have hu : (h₂.push (kxs_mw "ValueError.__init__" x)).get? h₂.objs.size = some (kxs_mw "ValueError.__init__" x) := Heap.get?_push_at rfl rfl
  refine kxs_callWith (i := "ValueError.__init__") (x := x) rfl (evalArgs_plain ?_)
  refine Calls.spliced_cons ?_
  show wpAny _ _ (eval (.Constant (.str msg) j q3) _) _ _ _
  refine Calls.Constant_str ?_
  refine Calls.spliced_nil ⟨hu, ?_⟩
  refine call_mw (k₃ _ _ (X₂ _ _ hC)) (k₃ _ _ hx₂) hu (one_size _) (fun h₄ t1 k₄ hx₄ => ?_)
  have kk : ∀ b o, b ≠ x → hh.get? b = some o → h₄.get? b = some o := fun b o nb e => k₄ b o nb (k₃ _ _ (k₂ _ _ (k _ _ e)))
  have X₄ : K.In h₄ := fun a o e => kk a o (fun z => by rw [z, hnx] at e; cases e) (X a o e)
  have nx : hh.objs.size ≠ x := fun z => by
    have := Heap.lt_size hx
    rw [← z] at this
    exact absurd this (Nat.lt_irrefl _)
  have ns₄ : h₄.Ns hh.objs.size (fun y => List.lookup y [(("self" : Str), Value.ref x), ("value", v)].reverse) :=
    hns.at fun o e => k₄ _ _ nx (k₃ _ _ (k₂ _ _ e))
  -- self.value = value
  refine ks_wpAt_execs_cons (wpAt_of_wpAny (plainObj_wpAny_Assign_Attribute ?_))
  refine wpAny_Name (wpAny_loadName_local (v := v) rfl rfl ns₄ rfl ?_) (by decide)
  refine wpAny_Name (wpAny_loadName_local (v := .ref x) rfl rfl ns₄ rfl ?_) (by decide)
  refine set_plain X₄ (ox := excO C t1) (od := none) ⟨hx₄, rfl, rfl, trivial⟩ T.sa ?_
  refine exc_osa X₄ hx₄ hcl (show refsVE (.ref C :: bm) = true from hbm) rfl T.noV (fun h₅ tk₅ dx k₅ dn dne hx₅ hn₅ => ?_)
  have big : hh.objs.size ≤ dx := by
    have l1 : hh.objs.size < h₁.objs.size := hns.lt
    have l2 : h₁.objs.size < h₂.objs.size := Heap.lt_size e₂
    have nu : h₂.objs.size ≠ x := Nat.ne_of_gt (Heap.lt_size hx₂)
    have l4 : h₂.objs.size < h₄.objs.size := Heap.lt_size (k₄ _ _ nu hu)
    have l5 : h₄.objs.size ≤ dx := dn
    exact Nat.le_trans (Nat.le_of_lt (Nat.lt_trans l1 (Nat.lt_trans l2 l4))) l5
  refine wpAt_of_wpAny (wpAny_execs_nil ?_)
  exact hq h₅ tk₅ dx t1 ⟨fun b o nb e => k₅ b o nb (kk b o nb e), hx₅, big, dne, hn₅⟩
end
end SqX

set_option Elab.async false
set_option linter.all false
set_option maxRecDepth 100000
set_option maxHeartbeats 2000000
namespace SqX
open PySem PySem.W PySem.Calls PyProof.Rows PySem.HandSPX
/-- a new error at e, its dict at d -/
structure New (h h' : Heap) (e C d t1 : Addr) (v : Value) : Prop where
  keep : ∀ b o, h.get? b = some o → h'.get? b = some o
  big : h.objs.size ≤ e
  obj : h'.get? e = some { cls := .ref C, dict := some d, data := .fields #[.ref t1, .none, .none, .none, .bool false, .none] }
  dbig : h.objs.size ≤ d
  dne : d ≠ e
  ns : h'.Ns1 d (fun y => if y = "value" then some v else none)
section
variable {prog : Program} {w : World} {A : Around} {E : Value → Shared → Prop} {R : Result → Shared → Prop} {K : Frag} {mg mb : Str → Option Value} {C fI : Addr} {q : Str}
theorem bind2 {s : Shared} {q : Str} {x v : Value} : ∀ fd : FuncData, (∃ p1 p2 bd doc pm an cda ct cc, fd = ksFn "__init__" q (xA p1 p2) bd xS .none .none doc pm an (.ref cda) ct cc) → BindsTo s fd ⟨[x, v], []⟩ [("self", x), ("value", v)] := by
  rintro fd ⟨p1, p2, bd, doc, pm, an, cda, ct, cc, rfl⟩
  exact BindsTo.of_eq (by first | rfl | with_unfolding_all rfl)
theorem bindK {s : Shared} {q : Str} {x v : Value} : ∀ fd : FuncData, (∃ p1 p2 bd doc pm an cda ct cc, fd = ksFn "__init__" q (xA p1 p2) bd xS .none .none doc pm an (.ref cda) ct cc) → BindsTo s fd ⟨[x], [("value", v)]⟩ [("self", x), ("value", v)] := by
  rintro fd ⟨p1, p2, bd, doc, pm, an, cda, ct, cc, rfl⟩
  exact BindsTo.of_eq (by first | rfl | with_unfolding_all rfl)
theorem made {s : Shared} (T : Er K prog C fI q) {v : Value} (X : K.In s.heap) (hg : s.heap.Ns mainGlobals mg) (hlim : s.heap.NoLimit) (hb : s.heap.Ns builtinsNs mb) (boot : ∀ y : Str, y ≠ "__name__" → mb y = bootBuiltins y)
    (hroom : A.depth + 1 < recursionLimit)
    (fin : ∀ h' tk e d t1, New s.heap h' e C d t1 v → R (.ok (.ret (.ref e))) { s with heap := h', toks := tk }) :
    codeAny (model prog w) A (.call (.ref C) ⟨[v], []⟩) R s := by
  obtain ⟨nm, qn, N, bs, bm, sn, sub, ab, col, dd, k0, k1, k2, k3, k5, hC, hbm⟩ := T.cls
  obtain ⟨hp, g, dr, tk, os⟩ := s
  have k : ∀ b o, hp.get? b = some o → ((hp.push (kdv_tup [v])).push (excO C hp.objs.size)).get? b = some o := fun b o e => Heap.get?_push_of_some _ (Heap.get?_push_of_some _ e)
  have atE : ((hp.push (kdv_tup [v])).push (excO C hp.objs.size)).get? (hp.objs.size + 1) = some (excO C hp.objs.size) := by heap_get
  have off : K.lookup (hp.objs.size + 1) = none := by
    cases e : K.lookup (hp.objs.size + 1) with
    | none => rfl
    | some o => exact absurd (Nat.lt_of_succ_lt (Heap.lt_size (X _ _ e))) (Nat.lt_irrefl _)
  refine call_own F.excBase_ValueError (fun Y => refsVE_contains Y bm hbm) (X _ _ hC) (looks_findIn X T.iC) (fun self => bind_fn X self T.tC) (one_size v) ?_
  refine init (s := ⟨(hp.push (kdv_tup [v])).push (excO C hp.objs.size), g, dr, tk, os⟩) T (X.keeps k) (hg.keeps k) (hlim.keeps k) (hb.keeps k) boot atE off (show A.depth + 1 < recursionLimit from hroom) bind2 ?_
  rintro h' tk' dx t1 ⟨kp, ob, dn, dne, ns⟩
  have old : ∀ b o, hp.get? b = some o → h'.get? b = some o := fun b o e => kp b o (Nat.ne_of_lt (Nat.lt_succ_of_lt (Heap.lt_size e))) (k b o e)
  have z : hp.objs.size + 1 + 1 ≤ dx := by
    first
      | (simpa only [Heap.size_push] using dn)
      | exact dn
      | (have y := dn; rw [Heap.size_push, Heap.size_push] at y; exact y)
  exact ⟨rfl, fin h' tk' (hp.objs.size + 1) dx t1 ⟨old, Nat.le_succ _, ob, Nat.le_trans (Nat.le_trans (Nat.le_succ _) (Nat.le_succ _)) z, dne, ns⟩⟩
end
end SqX

set_option Elab.async false
set_option linter.all false
set_option maxRecDepth 100000
set_option maxHeartbeats 4000000
/-! The same by keyword. -/
namespace SqX
open PySem PySem.W PySem.Calls PySem.HandSPX
section
variable {M : Model} {prog : Program} {w : World} {A : Around} {E : Value → Shared → Prop} {R : Result → Shared → Prop} {h : Heap} {g : Array GenState} {d : Drawn} {t : Nat} {os : OsState}
variable {nm qn : Str} {C N : Addr} {bs bm : List Value} {sn : List Str} {sub : List Value} {ab : Bool} {col : Option Bool} {dd : Option Addr} {k0 k1 k2 k3 k5 : Option Value} {v : Value}
abbrev VC (nm qn : Str) (C N : Addr) (bs bm : List Value) (sn : List Str) (sub : List Value) (ab : Bool) (col : Option Bool) (dd : Option Addr) (k0 k1 k2 k3 k5 : Option Value) : Obj := excClassObj nm qn C N bs bm true sn sub ab col dd k0 k1 k2 k3 k5 "ValueError.__new__"
theorem newCheckK (refs : refsVE bm = true) {Q : Unit → Shared → Prop} (atC : h.get? C = some (VC nm qn C N bs bm sn sub ab col dd k0 k1 k2 k3 k5)) (fin : Q () ⟨h, g, d, t, os⟩) :
    wpAny M A (checkBuiltinCall "ValueError.__new__" ⟨[.ref C], [("value", v)]⟩) Q E ⟨h, g, d, t, os⟩ := by
  have F := F.excBase_ValueError
  have has : (Value.ref C :: bm).contains (.type "ValueError") = true := by
    rw [List.contains_cons, refsVE_contains _ _ refs, F.hasB, Bool.or_true]
  have star := F.noStar
  simp only [checkBuiltinCall, F.newKind, F.newSplit, F.newRow]
  repeat (first
    | refine wpAny_loadPart_at atC ?_
    | (refine wpAny_isSubtype_exc atC ?_; rw [has])
    | refine wpAny_staticBase_exc atC ?_
    | refine wpAny_madeBy_exc atC ?_
    | simp only [bne_self_eq_false, Bool.false_eq_true, if_false]
    | wp_step)
  exact fin
theorem newK (refs : refsVE bm = true) (atC : h.get? C = some (VC nm qn C N bs bm sn sub ab col dd k0 k1 k2 k3 k5))
    (fin : R (.ok (.ret (.ref (h.objs.size + 1)))) ⟨(h.push (kdv_tup [])).push (excO C h.objs.size), g, d, t, os⟩) :
    codeAny (model prog w) A (.builtin "ValueError.__new__" ⟨[.ref C], [("value", v)]⟩) R ⟨h, g, d, t, os⟩ := by
  have F := F.excBase_ValueError
  have ends := F.ends
  have has : ∀ Y : String, (Value.ref C :: bm).contains (.type Y) = veTail.contains (.type Y) := fun Y => by
    rw [List.contains_cons, refsVE_contains _ _ refs]
    rfl
  have yB : (Value.ref C :: bm).contains (.type "ValueError") = true := (has _).trans (by decide +kernel)
  have nA : (Value.ref C :: bm).contains (.type "AttributeError") = false := (has _).trans (by decide +kernel)
  have nN : (Value.ref C :: bm).contains (.type "NameError") = false := (has _).trans (by decide +kernel)
  refine codeAny_builtinAt F.entry ?_
  unfold Builtin.«BaseException.__new__»
  refine wpAt_bind ?_
  show wpAt _ _ _ (stack >>= _) _ _ _
  refine wpAt_bind (wpAt_stack fun p below => wpAt_of_wpAny ?_)
  wp_walk
  refine wpAt_of_wpAny ?_
  rw [F.owner]
  repeat (first
    | with_reducible refine wpAny_madeHere_exc F.canon atC ?_
    | with_reducible refine wpAny_loadPart_at atC ?_
    | (with_reducible refine wpAny_isSubtype_exc atC ?_; first | rw [yB] | rw [nA] | rw [nN])
    | wp_step)
  show R _ _
  rw [Heap.size_push]
  exact fin
theorem typeCheckK {Q : Unit → Shared → Prop} (atC : h.get? C = some (VC nm qn C N bs bm sn sub ab col dd k0 k1 k2 k3 k5)) (fin : Q () ⟨h, g, d, t, os⟩) :
    wpAny M A (checkBuiltinCall "type.__call__" ⟨[.ref C], [("value", v)]⟩) Q E ⟨h, g, d, t, os⟩ := by
  have f3 := tc_sub
  have isT : (⟨h, g, d, t, os⟩ : Shared).TypeIs (.ref C) "type" := ⟨_, atC, rfl⟩
  simp only [checkBuiltinCall, tc_kind, tc_split]
  repeat (any_goals (first
    | assumption
    | with_reducible refine wpAny_loadPart_at atC ?_
    | with_reducible refine wpAny_onRaise ?_
    | with_reducible refine wpAny_map ?_
    | wp_step))
theorem typeCallK (refs : refsVE bm = true) {fI : Addr} {Q : Fin → Shared → Prop} (atC : h.get? C = some (VC nm qn C N bs bm sn sub ab col dd k0 k1 k2 k3 k5))
    (lookI : W.Looks (model prog w) h (typeLookup (.ref C) "__init__") (some (.ref fI))) (bindI : ∀ self, W.Looks (model prog w) h (bindSpecial (.ref fI) self) (.ref fI, [self]))
    (fin : codeAny (model prog w) A (.call (.ref fI) ⟨[.ref (h.objs.size + 1)], [("value", v)]⟩)
      (fun r s' => match r with | .ok (.ret u) => u = .none ∧ Q (.done (.ret (.ref (h.objs.size + 1)))) s' | .ok _ => False | .error e => E e s')
      ⟨(h.push (kdv_tup [])).push (excO C h.objs.size), g, d, t, os⟩) :
    wpAny (model prog w) A (Builtin.«type.__call__» ⟨[.ref C], [("value", v)]⟩) Q E ⟨h, g, d, t, os⟩ := by
  have F := F.excBase_ValueError
  repeat (first
    | with_reducible refine wpAny_loadPart_at atC ?_
    | with_reducible refine wpAny_madeBy_exc atC ?_
    | wp_step)
  refine codeAny_call_builtin_code (Code.quiet_builtin _ F.quiet) (newCheckK refs atC ?_)
  refine newK refs atC ?_
  show wpAny _ _ _ _ _ _
  have kp : ∀ b o, h.get? b = some o → ((h.push (kdv_tup [])).push (excO C h.objs.size)).get? b = some o := fun b o e => Heap.get?_push_of_some _ (Heap.get?_push_of_some _ e)
  have atC1 := kp _ _ atC
  have atE : ((h.push (kdv_tup [])).push (excO C h.objs.size)).get? (h.objs.size + 1) = some (excO C h.objs.size) := by heap_get
  have own : (Value.ref C :: bm).contains (.ref C) = true := by simp
  have look1 := lookI.keeps kp
  have bind1 := (bindI (.ref (h.objs.size + 1))).keeps kp
  unfold isInstance
  repeat (first
    | with_reducible refine wpAny_loadPart_at atE ?_
    | (with_reducible refine wpAny_isSubtype_exc atC1 ?_; rw [own])
    | wp_step)
  show wpAny _ _ (typeLookup (.ref C) _) _ _ _
  refine look1.at ?_
  refine wpAny_holding (wpAny_bind (bind1.at ?_))
  refine wpAny_bind (wpAny_call (codeAny_mono fin fun r s' z => ?_))
  match r, z with
  | .error e, z => exact z
  | .ok (.ret u), z =>
    obtain ⟨rfl, z⟩ := z
    first
      | exact wpAny_pure (wpAny_pure z)
      | (wp_walk; exact z)
theorem callK (refs : refsVE bm = true) {fI : Addr} (atC : h.get? C = some (VC nm qn C N bs bm sn sub ab col dd k0 k1 k2 k3 k5))
    (lookI : W.Looks (model prog w) h (typeLookup (.ref C) "__init__") (some (.ref fI))) (bindI : ∀ self, W.Looks (model prog w) h (bindSpecial (.ref fI) self) (.ref fI, [self]))
    (fin : codeAny (model prog w) (A.under (.builtin "type.__call__" ⟨[.ref C], [("value", v)]⟩)) (.call (.ref fI) ⟨[.ref (h.objs.size + 1)], [("value", v)]⟩) (W.InitBack (h.objs.size + 1) R)
      ⟨(h.push (kdv_tup [])).push (excO C h.objs.size), g, d, t, os⟩) :
    codeAny (model prog w) A (.call (.ref C) ⟨[], [("value", v)]⟩) R ⟨h, g, d, t, os⟩ := by
  have f1 := tc_lookup
  have f2 := tc_bind (.ref C)
  have isT : (⟨h, g, d, t, os⟩ : Shared).TypeIs (.ref C) "type" := ⟨_, atC, rfl⟩
  refine codeAny_of_tree ?_
  show wpAny _ _ (callAny (.ref C) _) _ _ _
  repeat (any_goals (first
    | assumption
    | with_reducible refine wpAny_loadPart_at atC ?_
    | wp_step))
  refine ⟨rfl, ?_⟩
  refine codeAny_call_builtin_at (Code.quiet_builtin _ (by decide +kernel)) entry_typeCall (typeCheckK atC (typeCallK refs atC lookI bindI ?_))
  refine codeAny_mono fin fun r s' z => ?_
  match r, z with
  | .error e, z => exact z
  | .ok (.ret u), z => exact z
end
section
variable {prog : Program} {w : World} {A : Around} {R : Result → Shared → Prop} {K : Frag} {mg mb : Str → Option Value} {C fI : Addr} {q : Str}
theorem madeK {s : Shared} (T : Er K prog C fI q) {v : Value} (X : K.In s.heap) (hg : s.heap.Ns mainGlobals mg) (hlim : s.heap.NoLimit) (hb : s.heap.Ns builtinsNs mb) (boot : ∀ y : Str, y ≠ "__name__" → mb y = bootBuiltins y)
    (hroom : A.depth + 1 < recursionLimit)
    (fin : ∀ h' tk e d t1, New s.heap h' e C d t1 v → R (.ok (.ret (.ref e))) { s with heap := h', toks := tk }) :
    codeAny (model prog w) A (.call (.ref C) ⟨[], [("value", v)]⟩) R s := by
  obtain ⟨nm, qn, N, bs, bm, sn, sub, ab, col, dd, k0, k1, k2, k3, k5, hC, hbm⟩ := T.cls
  obtain ⟨hp, g, dr, tk, os⟩ := s
  have k : ∀ b o, hp.get? b = some o → ((hp.push (kdv_tup [])).push (excO C hp.objs.size)).get? b = some o := fun b o e => Heap.get?_push_of_some _ (Heap.get?_push_of_some _ e)
  have atE : ((hp.push (kdv_tup [])).push (excO C hp.objs.size)).get? (hp.objs.size + 1) = some (excO C hp.objs.size) := by heap_get
  have off : K.lookup (hp.objs.size + 1) = none := by
    cases e : K.lookup (hp.objs.size + 1) with
    | none => rfl
    | some o => exact absurd (Nat.lt_of_succ_lt (Heap.lt_size (X _ _ e))) (Nat.lt_irrefl _)
  refine callK hbm (X _ _ hC) (looks_findIn X T.iC) (fun self => bind_fn X self T.tC) ?_
  refine init (s := ⟨(hp.push (kdv_tup [])).push (excO C hp.objs.size), g, dr, tk, os⟩) T (X.keeps k) (hg.keeps k) (hlim.keeps k) (hb.keeps k) boot atE off (show A.depth + 1 < recursionLimit from hroom) bindK ?_
  rintro h' tk' dx t1 ⟨kp, ob, dn, dne, ns⟩
  have old : ∀ b o, hp.get? b = some o → h'.get? b = some o := fun b o e => kp b o (Nat.ne_of_lt (Nat.lt_succ_of_lt (Heap.lt_size e))) (k b o e)
  have z : hp.objs.size + 1 + 1 ≤ dx := by
    first
      | (simpa only [Heap.size_push] using dn)
      | exact dn
      | (have y := dn; rw [Heap.size_push, Heap.size_push] at y; exact y)
  exact ⟨rfl, fin h' tk' (hp.objs.size + 1) dx t1 ⟨old, Nat.le_succ _, ob, Nat.le_trans (Nat.le_trans (Nat.le_succ _) (Nat.le_succ _)) z, dne, ns⟩⟩
end
end SqX

set_option Elab.async false
set_option linter.all false
set_option maxRecDepth 100000
set_option maxHeartbeats 2000000
/-! Own errors as values of the layer: made by position and by name, isinstance of them, their value. -/
namespace Sq
open PySem PySem.Spec PyProof.Rows L2
/-- an error of the class at C stands at a, its dict at d; it holds v -/
def ErrAt (H : Hp) (a d C : Addr) (v : V) : Prop := H a = some (exo a C (some d)) ∧ H d = some (exd d [(("value" : Str), v)])
theorem ErrAt.same {H H' : Hp} {a d C : Addr} {v : V} (s : Same H H') (e : ErrAt H a d C v) : ErrAt H' a d C v := ⟨s _ _ e.1, s _ _ e.2⟩
def tErr (C : Addr) (te : TE) : TE := fun σ H Q => te σ H fun v H1 => ∀ a d, H1 a = none → H1 d = none → d ≠ a → Q (.ref a) (upd (upd H1 d (exd d [(("value" : Str), v)])) a (exo a C (some d)))
section
variable {X : Cx} {C fI : Addr} {q : Str} {pins : List (Addr × Obj)} {σ : L2.St} {H : Hp} {s : Shared} {Q : VK}
/-- a made error comes into the layer's heap -/
theorem err_laid {h' : Heap} {e d t1 : Addr} {v : V} {u : Value} {tk : Nat} (I : Inv X pins σ H s) (r : RelV v u) (M : SqX.New s.heap h' e C d t1 u)
    (h : ∀ a d, H a = none → H d = none → d ≠ a → Q (.ref a) (upd (upd H d (exd d [(("value" : Str), v)])) a (exo a C (some d)))) : EP X pins σ Q (.ref e) { s with heap := h', toks := tk } := by
  have he : H e = none := I.hok.fresh M.big
  have hd : H d = none := I.hok.fresh M.dbig
  obtain ⟨G, g1, g2⟩ := restrict h' fun b => decide (b ≠ e)
  have gk : ∀ b, b ≠ e → G.get? b = h'.get? b := fun b hb => g1 b (decide_eq_true hb)
  have ge : G.get? e = none := g2 e (by simp)
  have old : ∀ b o, s.heap.get? b = some o → G.get? b = some o := fun b o z => (gk b (Nat.ne_of_lt (Nat.lt_of_lt_of_le (Heap.lt_size z) M.big))).trans (M.keep b o z)
  have up : ∀ b o, G.get? b = some o → h'.get? b = some o := fun b o z => by
    by_cases hb : b = e
    · rw [hb, ge] at z
      cases z
    · rw [← gk b hb]
      exact z
  have rel : ∀ f, RelO (List.lookup f [(("value" : Str), v)]) (if f = "value" then some u else none) := relO_put (fs := []) (mA := fun _ => none) r fun g => True.intro
  have nsG : G.Ns1 d (fun y => if y = "value" then some u else none) := M.ns.at fun o z => (gk d M.dne).trans z
  have J : Inv X pins σ (upd H d (exd d [(("value" : Str), v)])) { s with heap := G, toks := tk } := I.laid (t' := tk) old M.dbig (exd_ok nsG rel)
  have he2 : (upd H d (exd d [(("value" : Str), v)])) e = none := by rw [upd_ne (Ne.symm M.dne)]; exact he
  have J2 : Inv X pins σ (upd (upd H d (exd d [(("value" : Str), v)])) e (exo e C (some d))) { s with heap := h', toks := tk } := J.laidN (t' := tk) up ge he2 (exo_ok M.obj)
  exact ⟨.ref e, _, J2, rfl, h e d he hd M.dne⟩
/-- X(e) -/
theorem pe_err {e : Expr} {te : TE} {x : Str} {p pos : Pos} {k : Nat} (T : SqX.Er X.K X.prog C fI q) (gC : X.mg x = some (.ref C)) (hr : Room k X.A) (hg : Gl X x) (he : PE X e te)
    (hs : starEach [e] X.env = (false, eval e X.env) :: starEach [] X.env := by rfl) (hdb : (x == ("__debug__" : Str)) = false := by decide) : PE X (.Call (.Name x p) [e] [] pos) (tErr C te) := by
  refine ⟨fun pins s σ H Q I h => ?_⟩
  refine wpAny_Call_Name_kw (ld_glob I hg gC ?_ hdb)
  refine PySem.W.callWith_K (h₀ := X.base) I.ok.mod.kin T.kC ?_ hs (by rfl)
  rw [hs]
  show wpAny _ _ (spliced ((false, eval e X.env) :: backTo pos (starEach [] X.env))) _ _ s
  refine Calls.spliced_cons (thn (he.run pins s σ H _ I h) fun u s1 hh => ?_)
  obtain ⟨v, H1, I1, r1, q1⟩ := hh
  refine Calls.spliced_nil ⟨I1.kIn, ?_⟩
  show wpAny _ _ (call (.ref C) [u]) _ _ _
  obtain ⟨mb, hb, boot⟩ := I1.ok.mod.blt
  exact wpAny_call (SqX.made T I1.kIn (I1.ok.mod.glob.keeps I1.bk) I1.nolimit (hb.keeps I1.bk) boot (by have := hr.dp; omega) fun h' tk e d t1 M => err_laid I1 r1 M q1)
/-- X(value=e) -/
theorem pe_errK {e : Expr} {te : TE} {x : Str} {p pos kp : Pos} {k : Nat} (T : SqX.Er X.K X.prog C fI q) (gC : X.mg x = some (.ref C)) (hr : Room k X.A) (hg : Gl X x) (he : PE X e te) (hdb : (x == ("__debug__" : Str)) = false := by decide)
    (hpl : ((backTo pos (starEach [] X.env)).any (·.1) || (backToKw pos (keywordEach [⟨some "value", e, kp⟩] X.env)).any (·.1.isNone)) = false := by rfl) : PE X (.Call (.Name x p) [] [⟨some "value", e, kp⟩] pos) (tErr C te) := by
  refine ⟨fun pins s σ H Q I h => ?_⟩
  refine wpAny_Call_Name_kw (ld_glob I hg gC ?_ hdb)
  refine PySem.W.callWith_KW0 (h₀ := X.base) I.ok.mod.kin T.kC (by rfl) ?_ hpl
  refine thn ((pk_cons he pk_nil).run pos pins s σ H (fun zs H' => match zs with | [v] => ∀ a d, H' a = none → H' d = none → d ≠ a → Q (.ref a) (upd (upd H' d (exd d [(("value" : Str), v)])) a (exo a C (some d))) | _ => False) I ?_) ?_
  · exact h
  · rintro ws s2 ⟨zs, H2, I2, rz, q2⟩
    obtain ⟨v, rfl, q2⟩ : ∃ v, zs = [v] ∧ ∀ a d, H2 a = none → H2 d = none → d ≠ a → Q (.ref a) (upd (upd H2 d (exd d [(("value" : Str), v)])) a (exo a C (some d))) := by
      match zs, q2 with
      | [v], q2 => exact ⟨v, rfl, q2⟩
    refine ⟨I2.kIn, ?_⟩
    cases rz with
    | cons r1 rn =>
      cases rn
      rename_i u
      obtain ⟨mb, hb, boot⟩ := I2.ok.mod.blt
      show wpAny _ _ (call (.ref C) [] [(("value" : Str), u)]) _ _ _
      exact wpAny_call (SqX.madeK T I2.kIn (I2.ok.mod.glob.keeps I2.bk) I2.nolimit (hb.keeps I2.bk) boot (by have := hr.dp; omega) fun h' tk e d t1 M => err_laid I2 r1 M q2)
end
end Sq

set_option Elab.async false
set_option linter.all false
set_option maxRecDepth 100000
set_option maxHeartbeats 2000000
namespace SqX
open PySem PySem.W PySem.Spec PySem.Calls
section
variable {prog : Program} {w : World} {A : Around} {E : Value → Shared → Prop} {s : Shared} {K : Frag} {x D : Addr} {ox : Obj} {od : Option Obj}
/-- err.__class__, whatever the error's own dict holds -/
theorem classOf (T : L2.ExcC K D) (X : K.In s.heap) (I : InstAt s.heap x ox D od) {Q : Option Value → Shared → Prop} (fin : Q (some (.ref D)) { s with toks := s.toks + 1 }) :
    wpAny (model prog w) A (getAttr? (.ref x) "__class__") Q E s := by
  have found : findObj K D od "__class__" = some (.bind (.builtin "getset_descriptor.__get__") (.builtin "object.__class__")) := by
    obtain ⟨cd, hc, _⟩ := any_some T.hd
    unfold findObj
    rw [hc, Option.bind_some, T.ha, Option.bind_some]
    simp [T.hn, T.ht]
  obtain ⟨hp, g, d, t, os⟩ := s
  have ty := I.type (M := model prog w)
  have hookA := looks_findIn (M := model prog w) X T.hg
  have hookB := looks_findIn (M := model prog w) X T.hk
  have look := looks_find (M := model prog w) X I found
  have isB : Looks (model prog w) hp (isInstance (.ref x) (.type "BaseException")) true := ty.andThen (looks_subIn X T.hs)
  have differ : (Value.builtin "BaseException.__getattribute__" == Value.builtin "object.__getattribute__") = false := by decide +kernel
  have off : (onTheHeap (Value.ref D) && Value.builtin "BaseException.__getattribute__" == Value.builtin "object.__getattribute__") = false := by
    rw [differ]
    rfl
  unfold getAttr? getAttrBy? getAttrBy
  refine wpAny_bind (wpAny_mkText (wpAny_bind (wpAny_attempt (wpAny_holding (wpAny_bind (ty.at (wpAny_bind (hookA.at ?_))))))))
  show wpAny _ _ (if (onTheHeap (Value.ref D) && Value.builtin "BaseException.__getattribute__" == Value.builtin "object.__getattribute__") = true then _ else _) _ _ _
  rw [off, if_neg Bool.false_ne_true]
  unfold getAttrByItsOwn hookBefore
  refine wpAny_bind ?_
  rw [if_pos (show onTheHeap (Value.ref D) = true from rfl)]
  refine hookB.at ?_
  refine wpAny_bind (wpAny_attempt (wpAny_holding ?_))
  unfold callGetattribute
  rw [show (false && onTheHeap (Value.builtin "BaseException.__getattribute__")) = false from rfl, if_neg Bool.false_ne_true]
  unfold boundAndCalled
  rw [PySem.F.excAttr_ValueError.ga.bind (.ref x)]
  refine wpAny_bind (wpAny_pure ?_)
  show wpAny _ _ (call (.builtin "BaseException.__getattribute__") [.ref x, .str "__class__" t]) _ _ _
  refine wpAny_call (codeAny_call_builtin PySem.F.excAttr_ValueError.ga.plain PySem.F.entry_bexc_ga ?_)
  refine @check_slot (model prog w) _ _ ⟨hp, g, d, t + 1, os⟩ "BaseException.__getattribute__" "BaseException" "__getattribute__" (.ref x) [.str "__class__" t] [] _ (by decide +kernel) (by decide +kernel) isB (PySem.F.args_bexc_ga (.ref x) (.str "__class__" t)) ?_
  unfold Builtin.«object.__getattribute__»
  refine wpAny_bind (wpAny_of_eq (a := ((Value.ref x : Value), [Value.str "__class__" t])) (by first | rfl | (simp only [slotArgs]; rfl)) ?_)
  refine wpAny_bind (wpAny_pure (wpAny_bind (ty.at (wpAny_bind (look.at ?_)))))
  show wpAny _ _ (holding [Value.builtin "object.__class__"] (call (.builtin "getset_descriptor.__get__") [.builtin "object.__class__", .ref x, .ref D]) >>= ret) _ _ _
  refine wpAny_bind (wpAny_holding (wpAny_call (class_get (s := ⟨hp, g, d, t + 1, os⟩) (ox := ox) (od := od) X I T.hm ?_)))
  refine wpAny_pure ?_
  show wpAny _ _ (handedOut (.ref D)) _ _ _
  rw [handedOut_of (v := .ref D) rfl]
  first
    | exact wpAny_pure (wpAny_pure fin)
    | exact wpAny_pure fin
    | exact wpAny_pure (wpAny_bind (wpAny_pure (wpAny_pure fin)))
theorem kit (T : L2.ExcC K D) : KitX K (.ref x) (.ref D) (fun h => InstAt h x ox D od) where
  ty := fun _ _ _ I => I.type
  it := fun _ _ X _ => by
    obtain ⟨cdD, found, _⟩ := any_some T.hd
    unfold clsIn at found
    split at found
    · rename_i c' d' cd' sl' there
      intro A' Q' E' s' keep q
      unfold isType loadHead
      exact wpAny_bind (wpAny_loadPart (keep _ _ (X _ _ there)) (wpAny_pure q))
    · cases found
  ne := fun h tp dd its n sl X tup => by
    obtain ⟨cdD, found, _⟩ := any_some T.hd
    refine Bool.eq_false_iff.mpr fun q => ?_
    obtain rfl : D = tp := Value.ref.inj (beq_iff_eq.mp q)
    unfold clsIn at found
    split at found
    · rename_i c' d' cd' sl' there
      cases (X _ _ there).symm.trans tup
    · cases found
  ca := fun X I fin => classOf T X I fin
end
end SqX
namespace Sq
open PySem PySem.Spec PyProof.Rows L2
theorem kit_own {K : PySem.W.Frag} {C D : Addr} {b : Bool} (h1 : PySem.W.isClsIn K D = true) (h2 : PySem.W.typeIn K (.ref D) = some (.type "type")) (h3 : PySem.W.subIn K (.ref C) (.ref D) = some b) (h4 : C = D → b = true) : PySem.W.kitOne K (.ref C) (.ref D) = some b := by
  unfold PySem.W.kitOne
  by_cases e : C = D
  · subst e
    rw [if_pos (by simp), h4 rfl]
  · rw [if_neg (by simpa using e)]
    show (if ((PySem.W.clsIn K D).isSome && PySem.W.typeIn K (.ref D) == some (.type "type")) = true then PySem.W.subIn K (.ref C) (.ref D) else none) = some b
    have h1' : (PySem.W.clsIn K D).isSome = true := h1
    rw [h1', h2, if_pos (by rfl)]
    exact h3
theorem kit_base {K : PySem.W.Frag} {C : Addr} {T : String} {b : Bool} (h1 : PySem.W.kitMeta T = true) (h3 : PySem.W.subIn K (.ref C) (.type T) = some b) : PySem.W.kitOne K (.ref C) (.type T) = some b := by
  unfold PySem.W.kitOne
  rw [if_neg (by simp)]
  show (if PySem.W.kitMeta T = true then PySem.W.subIn K (.ref C) (.type T) else none) = some b
  rw [if_pos h1]
  exact h3
def rIsiE (K : PySem.W.Frag) : List V → Hp → VK → Prop := fun xs H Q => ∃ (a d C : Addr) (v c : V) (u : Value) (b : Bool), xs = [.ref a, c] ∧ ClsV c u ∧ ErrAt H a d C v ∧ ExcC K C ∧ PySem.W.kitOne K (.ref C) u = some b ∧ Q (.bl b) H
section
variable {X : Cx}
theorem call_isiE : CallR X (.builtin "isinstance") (rIsiE X.K) := by
  intro pins s σ H xs us Q I r h
  obtain ⟨a, d, C, v, c, u, b, rfl, k, at_, T, e, q⟩ := h
  obtain ⟨u1, u2, rfl, r1, r2⟩ := vals2 r
  obtain rfl := k.eq r2
  obtain rfl : u1 = Value.ref a := r1
  obtain ⟨t1, ho⟩ := exo_at I.hok at_.1
  obtain ⟨mA, hns, _⟩ := exd_at I.hok at_.2
  obtain ⟨od, hod, _⟩ := lookIn_ns hns
  have J : PySem.W.InstAt s.heap a _ C (some od) := ⟨ho, rfl, rfl, hod⟩
  exact PySem.W.kia_one (SqX.kit (ox := _) (od := some od) T) I.kIn J e (fun z => nomatch z) fun tk => ⟨.bl b, H, I.tok tk, rfl, q⟩
/-- error.value -/
def tErrV (K : PySem.W.Frag) (te : TE) : TE := fun σ H Q => te σ H fun x H1 => ∃ (a d C : Addr) (v : V), x = .ref a ∧ ErrAt H1 a d C v ∧ XfC K C ∧ PySem.W.findIn K (.ref C) "value" = some none ∧ Q v H1
theorem pe_errV {e : Expr} {te : TE} {pos : Pos} (he : PE X e te) (hb : attributeBase e "value" X.env (eval e X.env) = eval e X.env := by rfl) : PE X (.Attribute e "value" pos) (tErrV X.K te) := by
  refine ⟨fun pins s σ H Q I h => ?_⟩
  refine attr_of hb (thn (he.run pins s σ H _ I h) fun u s1 hh => ?_)
  obtain ⟨x, H1, I1, rx, a, d, C, v, ex, at_, T, hno, q⟩ := hh
  subst ex
  obtain rfl : u = Value.ref a := rx
  obtain ⟨t1, ho⟩ := exo_at I1.hok at_.1
  obtain ⟨mA, hns, hr⟩ := exd_at I1.hok at_.2
  obtain ⟨od, hod, hl⟩ := lookIn_ns hns
  have l : List.lookup ("value" : Str) [(("value" : Str), v)] = some v := by simp [List.lookup]
  obtain ⟨u, hu, ru⟩ := RelO.some_of (v := v) (o := mA "value") (by rw [← l]; exact hr "value")
  have J : PySem.W.InstAt s1.heap a _ C (some od) := ⟨ho, rfl, rfl, hod⟩
  exact HandSPX.exc_get I1.kIn J T.ga T.gg T.exC (PySem.W.findObj_own T.hdC hno rfl (by rw [hl, hu])) (handed_of ru) ⟨v, H1, I1.tok _, ru, q⟩
end
end Sq

set_option Elab.async false
set_option linter.all false
set_option maxRecDepth 100000
set_option maxHeartbeats 2000000
/-! Own errors raised; a caught one kept behind its suite. -/
namespace Sq
open PySem PySem.Spec PyProof.Rows L2
/-- an error that was raised: its class and its dict are known -/
def exq (a C : Addr) (d : Option Addr) : HO := .ext fun h => ∃ (oe : Obj) (vs : Array Value), h.get? a = some oe ∧ Zc (.ref C) d oe ∧ oe.data = .fields vs
theorem exq_ok {P : Program} {w : World} {H : Hp} {h : Heap} {a C : Addr} {d : Option Addr} {oe : Obj} {vs : Array Value} (e : h.get? a = some oe) (z : Zc (.ref C) d oe) (hd : oe.data = .fields vs) : ObjOk P w H h a (exq a C d) :=
  ⟨⟨oe, vs, e, z, hd⟩, ⟨oe, e⟩, fun _ _ ⟨o, v, q, r⟩ k => ⟨o, v, k o q, r⟩⟩
theorem exq_at {P : Program} {w : World} {H : Hp} {h : Heap} {a C : Addr} {d : Option Addr} (hok : HOk P w H h) (e : H a = some (exq a C d)) : ∃ (oe : Obj) (vs : Array Value), h.get? a = some oe ∧ Zc (.ref C) d oe ∧ oe.data = .fields vs := by
  have x : ObjOk P w H h a (.ext fun h => ∃ (oe : Obj) (vs : Array Value), h.get? a = some oe ∧ Zc (.ref C) d oe ∧ oe.data = .fields vs) := hok a _ e
  exact x.1
section
variable {X : Cx} {pins : List (Addr × Obj)} {σ : L2.St} {H : Hp} {s : Shared}
/-- an object that came into being since the entry is tracked from now on -/
theorem tracked {a C : Addr} {d : Option Addr} {oe : Obj} {vs : Array Value} (I : Inv X pins σ H s) (na : H a = none) (n0 : X.s_0.heap.get? a = none) (e : s.heap.get? a = some oe) (z : Zc (.ref C) d oe) (hd : oe.data = .fields vs)
    (hp : ∀ p ∈ X.pn ++ pins, p.1 ≠ a) (nL : a ≠ X.env.locals) : Inv X pins σ (upd H a (exq a C d)) s := by
  refine ⟨I.ok, I.os, I.bare, ⟨I.base.keep, I.base.slot, fun b o q n hx => ?_, I.base.there, fun b xs q => ?_, fun b o xs q => ?_, fun b ps q => ?_⟩, I.loc, I.cell, ?_, fun x c q => ?_, fun p q => ?_, fun b u q => ?_, I.len⟩
  · rw [upd_ne (fun z => by rw [z, n0] at q; cases q)]
    exact I.base.free b o q n hx
  · have y := I.base.tups b xs q
    rw [upd_ne (ne_of_none y na)]
    exact y
  · have y := I.base.frzs b o xs q
    rw [upd_ne (ne_of_none y na)]
    exact y
  · obtain ⟨m, y⟩ := I.base.tbls b ps q
    exact ⟨m, by rw [upd_ne (ne_of_none y na)]; exact y⟩
  · rw [upd_ne (Ne.symm nL)]
    exact I.free
  · obtain ⟨v, o, ho, hv⟩ := I.cell x c q
    have ne : c ≠ a := fun z => by
      rw [z, e] at ho
      cases ho
      rw [hd] at hv
      cases hv
    rw [upd_ne ne]
    exact I.freeC x c q
  · obtain ⟨y1, y2, y3, y4, y5⟩ := I.pin p q
    exact ⟨y1, by rw [upd_ne (hp p q)]; exact y2, y3, y4, y5⟩
  · by_cases hb : b = a
    · subst hb
      rw [upd_same] at q
      cases q
      exact exq_ok e z hd
    · rw [upd_ne hb] at q
      exact (I.hok b u q).stay (fun _ _ _ y => y) (fun c y => by rw [upd_ne (ne_of_none y na)]; exact y) fun c xs y => by rw [upd_ne (ne_of_none y na)]; exact y
/-- the name of an except clause goes; all but the frame's own record stands -/
theorem gone_stays {M : Model} {A : Around} {E : Value → Shared → Prop} {i : Nat} {n : Str} {pos : Pos} {Q : Unit → Shared → Prop} (I : Inv X pins σ H s) (hN : X.N.Nodup) (hi : X.N[i]? = some n) (hl : X.env.kindOf n = some .local)
    (h : ∀ s', Inv X pins (σ.set i none) H s' → (∀ b o, b ≠ X.env.locals → s.heap.get? b = some o → s'.heap.get? b = some o) → Q () s') : wpAny M A (do bindName X.env n .none; unbindBehindTheSuite X.env n pos) Q E s := by
  obtain ⟨spaces, there, held⟩ := id I.loc
  have plain : (X.env.scope.kind == .class || (X.env.scope.kind == .module && X.env.locals != X.env.globals)) = false := by
    rw [I.ok.kind]
    rfl
  have older : ∀ b o, X.s_0.heap.get? b = some o → b ≠ X.env.locals := fun b o e => Nat.ne_of_lt (Nat.lt_of_lt_of_le (Heap.lt_size e) I.ok.above)
  refine wpAny_nameGoes_keeps hl there plain fun h2 v there2 but => h _ ?_ fun b o nb e => (but.2 b nb).trans e
  have base2 : Un X.fs X.ex X.H_0 H X.s_0.heap h2 := {
    keep := fun b o e n hb hx => (but.2 b (older b o e)).trans (I.base.keep b o e n hb hx)
    slot := fun b o e n hb hx => let ⟨sl, y⟩ := I.base.slot b o e n hb hx; ⟨sl, (but.2 b (older b o e)).trans y⟩
    free := I.base.free
    there := fun b o e hx => let ⟨o', y⟩ := I.base.there b o e hx; ⟨o', (but.2 b (older b o e)).trans y⟩
    tups := I.base.tups
    frzs := I.base.frzs
    tbls := I.base.tbls }
  have cells2 : ∀ y c, X.env.cells.lookup y = some c → ∃ w', h2.IsCell c w' := fun y c e => let ⟨w', z⟩ := I.cell y c e; ⟨w', z.sameBut but (I.cne y c e)⟩
  refine ⟨I.ok, I.os, I.bare, base2, ⟨_, there2, fun j y v' at_ val vis => ?_⟩, cells2, I.free, I.freeC, fun q hq => ?_, fun b ob eb => ?_, by simpa using I.len⟩
  · by_cases same : j = i
    · exfalso
      subst same
      rw [List.getElem?_set] at val
      split at val
      · split at val <;> cases val
      · rename_i z
        exact z rfl
    · rw [List.getElem?_set_ne (Ne.symm same)] at val
      obtain ⟨u', rel, place⟩ := held j y v' at_ val vis
      refine ⟨u', rel, place.elim (fun ⟨k, e⟩ => .inl ⟨k, ?_⟩) fun ⟨k, c, e, z⟩ => .inr ⟨k, c, e, z.sameBut but (I.cne y c e)⟩⟩
      have other : y ≠ n := fun e => same (nodup_ix hN at_ (e ▸ hi))
      exact (if_neg other).trans e
  · obtain ⟨y1, y2, y3, y4, y5⟩ := I.pin q hq
    exact ⟨(but.2 q.1 y3).trans y1, y2, y3, y4, y5⟩
  · refine (I.hok b ob eb).stay (fun c w' hc z => (but.2 c fun isL => ?_).trans z) (fun _ z => z) fun _ _ z => z
    subst isL
    rcases hc with hc | hc
    · rw [← hc, I.free] at eb
      cases eb
    · rw [I.free] at hc
      cases hc
/-- raise X(e): what is made -/
theorem pmk_er {C fI : Addr} {q : Str} {e : Expr} {te : TE} {x : Str} {p pos : Pos} {k : Nat} (T : SqX.Er X.K X.prog C fI q) (gC : X.mg x = some (.ref C)) (hr : Room k X.A) (hg : Gl X x) (he : PE X e te)
    (hs : starEach [e] X.env = (false, eval e X.env) :: starEach [] X.env := by rfl) (hdb : (x == ("__debug__" : Str)) = false := by decide) :
    PMk X (.Call (.Name x p) [e] [] pos) (fun σ H Q => te σ H fun v H1 => ∀ d, H1 d = none → Q (.ref C) (some d) (upd H1 d (exd d [(("value" : Str), v)]))) := by
  intro pins s σ H Q I h
  refine wpAny_Call_Name_kw (ld_glob I hg gC ?_ hdb)
  refine PySem.W.callWith_K (h₀ := X.base) I.ok.mod.kin T.kC ?_ hs (by rfl)
  rw [hs]
  show wpAny _ _ (spliced ((false, eval e X.env) :: backTo pos (starEach [] X.env))) _ _ s
  refine Calls.spliced_cons (thn (he.run pins s σ H _ I h) fun u s1 hh => ?_)
  obtain ⟨v, H1, I1, r1, q1⟩ := hh
  refine Calls.spliced_nil ⟨I1.kIn, ?_⟩
  show wpAny _ _ (call (.ref C) [u]) _ _ _
  obtain ⟨mb, hb, boot⟩ := I1.ok.mod.blt
  refine wpAny_call (SqX.made T I1.kIn (I1.ok.mod.glob.keeps I1.bk) I1.nolimit (hb.keeps I1.bk) boot (by have := hr.dp; omega) fun h' tk a d t1 M => ?_)
  have na : H1 a = none := I1.hok.fresh M.big
  have nd : H1 d = none := I1.hok.fresh M.dbig
  obtain ⟨G, g1, g2⟩ := restrict h' fun b => decide (b ≠ a)
  have gk : ∀ b, b ≠ a → G.get? b = h'.get? b := fun b hb => g1 b (decide_eq_true hb)
  have ga : G.get? a = none := g2 a (by simp)
  have old : ∀ b o, s1.heap.get? b = some o → G.get? b = some o := fun b o z => (gk b (Nat.ne_of_lt (Nat.lt_of_lt_of_le (Heap.lt_size z) M.big))).trans (M.keep b o z)
  have nsG : G.Ns1 d (fun y => if y = "value" then some u else none) := M.ns.at fun o z => (gk d M.dne).trans z
  have rel : ∀ f, RelO (List.lookup f [(("value" : Str), v)]) (if f = "value" then some u else none) := relO_put (fs := []) (mA := fun _ => none) r1 fun g => True.intro
  have J : Inv X pins σ (upd H1 d (exd d [(("value" : Str), v)])) { s1 with heap := G, toks := tk } := I1.laid (t' := tk) old M.dbig (exd_ok nsG rel)
  refine ⟨a, _, _, { s1 with heap := G, toks := tk }, _, .ref C, some d, rfl, J, fun b o z => ?_, ga, M.obj, ⟨rfl, rfl⟩, rfl, rfl, by rw [upd_ne (Ne.symm M.dne)]; exact na, rfl, I1.bare, raises_own T.exC T.tyC, q1 d nd⟩
  by_cases hb : b = a
  · rw [hb, ga] at z
    cases z
  · rw [← gk b hb]
    exact z
end
end Sq

set_option Elab.async false
set_option linter.all false
set_option maxRecDepth 100000
set_option maxHeartbeats 4000000
/-! try: .. except X as n: suite, where the caught error is still known behind it. -/
namespace Sq
open PySem PySem.Spec PyProof.Rows L2
/-- what the clause wishes of an error of the body; behind the suite the error stands at its place -/
def wKeep (K : PySem.W.Frag) (c : Value) (i : Nat) (ts : Addr → Value → Option Addr → TS) (Wout : WX) (D : Ends) : WX := fun cls d σ H =>
  ∃ b, PySem.W.exmOne K cls c = some b ∧
    (b = true → ∃ C, cls = .ref C ∧ ∀ a, H a = none → ts a cls d { nx := fun σ' H' => D.nx (σ'.set i none) (upd H' a (exq a C d)), rt := fun v H' => D.rt v (upd H' a (exq a C d)), bk := fun σ' H' => D.bk (σ'.set i none) (upd H' a (exq a C d)), ct := fun σ' H' => D.ct (σ'.set i none) (upd H' a (exq a C d)) } (σ.set i (some (.ref a))) H) ∧
    (b = false → Wout cls d σ H)
section
variable {X : Cx} {x n : Str} {c : Value} {i : Nat} {body suite : List Stmt} {b₀ : Stmt} {np pos pos' : Pos} {tb : WX → TS} {ts : Addr → Value → Option Addr → TS} {Wout : WX}
theorem ps_try_keep (stack : X.stack = X.env :: X.outer) (frame : X.env.frame = some X.env.locals) (noex : X.ex = []) (nodup : X.N.Nodup) (slot : X.N[i]? = some n) (isLocal : X.env.kindOf n = some .local) (named : Names X x c) (takes : Takes X Wout)
    (tried : ∀ (W : WX) (pn : List (Addr × Obj)) (xe : Value → Shared → Prop), Takes (X.tr pn xe) W → PassesOwn (model X.prog X.w) X.A X.env xe → PSs (X.tr pn xe) body (tb W))
    (caught : ∀ (a : Addr) (oe : Obj) (cls : Value) (d : Option Addr) (pn : List (Addr × Obj)), Zc cls d oe → (∃ vs, oe.data = .fields vs) → PSs (X.suite a ((a, oe) :: pn)) (b₀ :: suite) (ts a cls d)) :
    PS X (.Try body [.ExceptHandler (some (.Name x np)) (some n) (b₀ :: suite) pos'] [] [] pos) (fun D σ H => tb (wKeep X.K c i ts Wout D) D σ H) := by
  refine ⟨fun pins s σ H D I h => ?_⟩
  have ok := I.ok
  have frames : X.A.frames = some (X.env :: X.outer) := by rw [ok.frames, stack]
  refine wpAny_Try_except (wpAny_mono ((tried (wKeep X.K c i ts Wout D) (X.pn ++ pins) (fun e s₁ => wpAny (model X.prog X.w) X.A (noteFrame e X.env) (fun _ s₂ => wpAny (model X.prog X.w) X.A (setFlight e none) (fun _ s₃ =>
    wpAny (model X.prog X.w) X.A (handleBy e X.env [.ExceptHandler (some (.Name x np)) (some n) (b₀ :: suite) pos']) (SP X pins D) X.xe s₃) X.xe s₂) X.xe s₁) (fun u s' air => ?_) PassesOwn.looking).run [] s σ H D (I.toTry _) h) (fun f s1 done => ?_) (fun e s1 he => he))
  · obtain ⟨a, B, sI, pins2, σ2, H2, cls, d, rfl, J', ground, upto, sky, na, os, ag, b, match_, yes, no⟩ := air
    have J : Inv X pins σ2 H2 sI := J'.ofTry ok
    have sky2 : Sky B (X.env :: X.outer) a (Zc cls d) X.env.locals s'.heap := by
      rw [← stack]
      exact sky
    refine Sky.land Zc.steady frames frame sky2 fun h3 fl3 up3 => ?_
    have J3 : Inv X pins σ2 H2 { s' with heap := h3 } := J.landed ground fl3.1 (upto.trans up3) os ag
    obtain ⟨oe3, vs3, he3, hz3, hd3⟩ := fl3.there
    have noFrame : a ∉ frs (X.env :: X.outer) := fun hm => by
      obtain ⟨_, o', e', hnf⟩ := fl3.2.2.1.mem hm
      rw [he3] at e'
      cases e'
      exact hnf _ hd3
    have nL : a ≠ X.env.locals := fun z => noFrame (List.mem_filterMap.mpr ⟨X.env, List.mem_cons_self, by rw [frame, z]⟩)
    have nF : a ∉ X.fs := fun hm => by
      obtain ⟨e, he, q⟩ := List.mem_filterMap.mp hm
      exact noFrame (List.mem_filterMap.mpr ⟨e, List.mem_cons_of_mem _ he, q⟩)
    -- the error is younger than all that stood at the entry, and no pin
    have newI : sI.heap.get? a = none := by
      cases e : sI.heap.get? a with
      | none => rfl
      | some o =>
        have z := ground a o e (by rw [stack]; exact noFrame)
        rw [fl3.2.1] at z
        cases z
    have new0 : X.s_0.heap.get? a = none := by
      cases e : X.s_0.heap.get? a with
      | none => rfl
      | some o =>
        obtain ⟨o', z⟩ := J.base.there a o e (by rw [noex]; exact fun z => nomatch z)
        rw [newI] at z
        cases z
    have noPin : ∀ q ∈ X.pn ++ pins, q.1 ≠ a := fun q hq z => by
      have y := (J.pin q hq).1
      rw [z, newI] at y
      cases y
    have S3 := J3.suite he3 hd3 na nL nF
    refine wpAny_handleBy_cons (codeAny_handlers_test ?_) (by intro q; cases q)
    have LT : PySem.W.Looks (model X.prog X.w) h3 (typeOf (.ref a)) cls := fun A Q E s k q => wpAny_typeOf_ref (k _ _ he3) (by rw [hz3.1]; exact q)
    have LM := PySem.W.exm_one (M := model X.prog X.w) (J3.kIn) LT match_
    have test : ∀ {Q : Value → Shared → Prop} {E : Value → Shared → Prop}, Q c { s' with heap := h3 } → wpAny (model X.prog X.w) (X.A.mark (some (.ref a))) (eval (.Name x np) X.env) Q E { s' with heap := h3 } := fun {Q E} q => by
      obtain ⟨hg, hdbg, hm | ⟨hm, hv, hnn⟩⟩ := named
      · exact ld_glob (X := X.suite a ((a, oe3) :: (X.pn ++ pins))) S3 hg hm q hdbg
      · exact ld_blt (X := X.suite a ((a, oe3) :: (X.pn ++ pins))) S3 hg hm hv q hnn hdbg
    refine test (LM.here ?_)
    cases b with
    | true =>
      obtain ⟨C, rfl, yes⟩ := yes rfl
      refine codeAny_handlers_suite_as ?_
      refine HandSPX.lands_againZ fl3 fun h4 fl4 up4 => ?_
      have J4 : Inv X pins σ2 H2 { s' with heap := h4 } := J.landed ground fl4.1 ((upto.trans up3).trans up4) os ag
      obtain ⟨oe4, vs4, he4, hz4, hd4⟩ := fl4.there
      have S4 := J4.suite he4 hd4 na nL nF
      refine store_ok (X := X.suite a ((a, oe4) :: (X.pn ++ pins))) (v := .ref a) S4 nodup slot (.inl isLocal) rfl (fun s5 S5 => ?_) (.inr isLocal)
      refine wpAny_mono ((caught a oe4 (.ref C) d (X.pn ++ pins) hz4 ⟨_, hd4⟩).run [] s5 _ H2 _ S5 (yes a na)) (fun f s6 after => ?_) (fun _ _ z => False.elim z)
      have leave : ∀ {σ6 : L2.St} {H6 : Hp} {Q : Shared → Prop}, Inv (X.suite a ((a, oe4) :: (X.pn ++ pins))) [] σ6 H6 s6 → (∀ s7, Inv X pins (σ6.set i none) (upd H6 a (exq a C d)) s7 → Q s7) →
          wpAny (model X.prog X.w) X.A (do bindName X.env n .none; unbindBehindTheSuite X.env n pos') (fun _ s7 => Q s7) X.xe s6 := fun {σ6 H6 Q} S6 hq => by
        obtain ⟨p1, p2, _⟩ := S6.pin (a, oe4) (List.mem_append_left _ List.mem_cons_self)
        exact gone_stays (S6.unsuite ok) nodup slot isLocal fun s7 J7 stays => hq s7 (tracked J7 p2 new0 (stays a oe4 nL p1) hz4 hd4 noPin nL)
      cases f with
      | next =>
        obtain ⟨σ6, H6, S6, q6⟩ := after
        exact leave S6 fun s7 J7 => ⟨_, _, J7, q6⟩
      | brk =>
        obtain ⟨σ6, H6, S6, q6⟩ := after
        exact leave S6 fun s7 J7 => ⟨_, _, J7, q6⟩
      | cont =>
        obtain ⟨σ6, H6, S6, q6⟩ := after
        exact leave S6 fun s7 J7 => ⟨_, _, J7, q6⟩
      | ret u =>
        obtain ⟨v6, σ6, H6, S6, r6, q6⟩ := after
        exact leave S6 fun s7 J7 => ⟨_, _, _, J7, r6, q6⟩
    | false =>
      show wpAny _ X.A (handleBy (.ref a) X.env []) _ _ _
      refine wpAny_handleBy_nil ?_
      obtain ⟨k1, k2, k3, oe, vs, T, oT, ts', he, hz, hd, h1, rest⟩ := id fl3
      unfold PySem.passOn
      refine wpAny_bind (wpAny_field he hd h1 ?_)
      rw [if_neg (show ¬ ((Value.ref T == Value.none) = true) from by simp)]
      have fin : wpAny (model X.prog X.w) X.A (setFlight (.ref a) X.env.frame) (fun _ s4 => wpAny (model X.prog X.w) X.A (throw (.ref a) : Sem Flow) (SP X pins D) X.xe s4) X.xe { s' with heap := h3 } := by
        rw [frame]
        refine HandSPX.setFlight_upZ fl3 fun h4 hh4 up4 => wpAny_throw (takes _ _ ?_)
        exact ⟨a, B, sI, pins, σ2, H2, cls, d, rfl, J, ground, (upto.trans up3).trans up4, .inr (.inr (by rw [stack]; exact hh4)), na, os, ag, no rfl⟩
      first
        | exact wpAny_bind (wpAny_pure (wpAny_bind fin))
        | exact wpAny_bind fin
  · cases f with
    | next =>
      obtain ⟨σ2, H2, J', q⟩ := done
      exact wpAny_execs_nil ⟨σ2, H2, J'.ofTry ok, q⟩
    | brk =>
      obtain ⟨σ2, H2, J', q⟩ := done
      exact ⟨σ2, H2, J'.ofTry ok, q⟩
    | cont =>
      obtain ⟨σ2, H2, J', q⟩ := done
      exact ⟨σ2, H2, J'.ofTry ok, q⟩
    | ret u =>
      obtain ⟨v, σ2, H2, J', r, q⟩ := done
      exact ⟨v, σ2, H2, J'.ofTry ok, r, q⟩
end
/-! ### what is asked of a caught error -/
/-- an error of the class at C was caught at a, its dict at d; it holds v -/
def CaughtAt (H : Hp) (a d C : Addr) (v : V) : Prop := H a = some (exq a C (some d)) ∧ H d = some (exd d [(("value" : Str), v)])
theorem CaughtAt.same {H H' : Hp} {a d C : Addr} {v : V} (s : Same H H') (e : CaughtAt H a d C v) : CaughtAt H' a d C v := ⟨s _ _ e.1, s _ _ e.2⟩
theorem caught_obj {X : Cx} {pins : List (Addr × Obj)} {σ : L2.St} {H : Hp} {s : Shared} {a d C : Addr} {v : V} (I : Inv X pins σ H s) (e : CaughtAt H a d C v) :
    ∃ ox od u, PySem.W.InstAt s.heap a ox C (some od) ∧ PySem.W.lookIn "value" od = some (some u) ∧ RelV v u := by
  obtain ⟨oe, vs, ho, z, hd⟩ := exq_at I.hok e.1
  obtain ⟨mA, hns, hr⟩ := exd_at I.hok e.2
  obtain ⟨od, hod, hl⟩ := lookIn_ns hns
  have l : List.lookup ("value" : Str) [(("value" : Str), v)] = some v := by simp [List.lookup]
  obtain ⟨u, hu, ru⟩ := RelO.some_of (v := v) (o := mA "value") (by rw [← l]; exact hr "value")
  exact ⟨oe, od, u, ⟨ho, z.1, by unfold PySem.W.notCls; rw [hd] <;> rfl, by rw [z.2]; exact hod⟩, by rw [hl, hu], ru⟩
end Sq
namespace Sq
open PySem PySem.Spec PyProof.Rows L2
section
variable {X : Cx}
def rIsiQ (K : PySem.W.Frag) : List V → Hp → VK → Prop := fun xs H Q => ∃ (a d C : Addr) (v c : V) (u : Value) (b : Bool), xs = [.ref a, c] ∧ ClsV c u ∧ CaughtAt H a d C v ∧ ExcC K C ∧ PySem.W.kitOne K (.ref C) u = some b ∧ Q (.bl b) H
theorem call_isiQ : CallR X (.builtin "isinstance") (rIsiQ X.K) := by
  intro pins s σ H xs us Q I r h
  obtain ⟨a, d, C, v, c, u, b, rfl, k, at_, T, e, q⟩ := h
  obtain ⟨u1, u2, rfl, r1, r2⟩ := vals2 r
  obtain rfl := k.eq r2
  obtain rfl : u1 = Value.ref a := r1
  obtain ⟨ox, od, uv, J, _, _⟩ := caught_obj I at_
  exact PySem.W.kia_one (SqX.kit (ox := ox) (od := some od) T) I.kIn J e (fun z => nomatch z) fun tk => ⟨.bl b, H, I.tok tk, rfl, q⟩
/-- isinstance(error, (X, Y)) -/
def rIsiQT (K : PySem.W.Frag) : List V → Hp → VK → Prop := fun xs H Q => ∃ (a d C tp : Addr) (v : V) (cs : List V) (us : List Value) (b : Bool), xs = [.ref a, .ref tp] ∧ H tp = some (.tup cs) ∧ Paired ClsV cs us ∧ CaughtAt H a d C v ∧ ExcC K C ∧ PySem.W.kitAny K (.ref C) us = some b ∧ Q (.bl b) H
theorem call_isiQT : CallR X (.builtin "isinstance") (rIsiQT X.K) := by
  intro pins s σ H xs vs Q I r h
  obtain ⟨a, d, C, tp, v, cs, us, b, rfl, ht, pc, at_, T, e, q⟩ := h
  obtain ⟨u1, u2, rfl, r1, r2⟩ := vals2 r
  obtain rfl : u1 = Value.ref a := r1
  obtain rfl : u2 = Value.ref tp := r2
  obtain ⟨ox, od, uv, J, _, _⟩ := caught_obj I at_
  obtain ⟨few, its, rv, ob, there, isT, n, data⟩ := (show ObjOk X.prog X.w H s.heap tp (.tup cs) from I.hok tp _ ht)
  have same := ClsV.all pc rv
  subst same
  obtain ⟨oc, dct, dt, sl⟩ := ob
  simp only at isT data
  subst isT data
  exact PySem.W.kia_tup (SqX.kit (ox := ox) (od := some od) T) I.kIn J there e (fun z => nomatch z) fun tk => ⟨.bl b, H, I.tok tk, rfl, q⟩
/-- error.value of a caught one -/
def tQv (K : PySem.W.Frag) (te : TE) : TE := fun σ H Q => te σ H fun x H1 => ∃ (a d C : Addr) (v : V), x = .ref a ∧ CaughtAt H1 a d C v ∧ XfC K C ∧ PySem.W.findIn K (.ref C) "value" = some none ∧ Q v H1
theorem pe_qv {e : Expr} {te : TE} {pos : Pos} (he : PE X e te) (hb : attributeBase e "value" X.env (eval e X.env) = eval e X.env := by rfl) : PE X (.Attribute e "value" pos) (tQv X.K te) := by
  refine ⟨fun pins s σ H Q I h => ?_⟩
  refine attr_of hb (thn (he.run pins s σ H _ I h) fun u s1 hh => ?_)
  obtain ⟨x, H1, I1, rx, a, d, C, v, ex, at_, T, hno, q⟩ := hh
  subst ex
  obtain rfl : u = Value.ref a := rx
  obtain ⟨ox, od, uv, J, l, ru⟩ := caught_obj I1 at_
  exact HandSPX.exc_get I1.kIn J T.ga T.gg T.exC (PySem.W.findObj_own T.hdC hno rfl l) (handed_of ru) ⟨v, H1, I1.tok _, ru, q⟩
end
end Sq

set_option Elab.async false
set_option linter.all false
set_option maxRecDepth 100000
set_option maxHeartbeats 2000000
/-! A walk that is left at its first item: for x in g(..): break. -/
namespace Sq
open PySem PySem.Spec PyProof.Rows L2 GenW
def Y1 (P : Program) (w : World) (outer : List Env) (H : Hp) (s : Shared) (a : Addr) (g : Nat) (q : V → Hp → Prop) : Protocol := fun _ _ v s1 _ =>
  s1.os = s.os ∧ AllBare s1.gens ∧ s1.heap.IsGen a g ∧ ∃ x H', Un (frs outer) [] H H' s.heap s1.heap ∧ HOk P w H' s1.heap ∧ RelV x v ∧ q x H'
def R1 (P : Program) (w : World) (outer : List Env) (H : Hp) (s : Shared) (a : Addr) (g : Nat) (E : XK) : GenEnd := fun _ _ r s1 => ∃ e, r = .error e ∧ CX P w outer H s E e s1 ∧ s1.heap.IsGen a g
/-- a generator that has not begun: its first item, or an error -/
def GFst (P : Program) (w : World) (k : Nat) (outer : List Env) (H : Hp) (s : Shared) (q : V → Hp → Prop) (E : XK) (u : Value) (s' : Shared) : Prop :=
  ∃ (a : Addr) (g : Nat) (c : Code), u = .ref a ∧ s.heap.objs.size ≤ a ∧ s'.heap.IsGen a g ∧ s'.gens[g]? = some (.fresh c) ∧ s'.os = s.os ∧ AllBare s'.gens ∧ s'.heap.NoLimit ∧ (∀ b o, s.heap.get? b = some o → s'.heap.get? b = some o) ∧
    ∀ (A : Around) (s2 : Shared), Room k A → A.frames = some outer → (∀ b o, s'.heap.get? b = some o → s2.heap.get? b = some o) → s2.os = s.os → AllBare s2.gens →
      Seg (model P w) A (R1 P w outer H s a g E) (Y1 P w outer H s a g q) 1 s2 c ((model P w).den c) [] s2
abbrev SpF := List V → Hp → (V → Hp → Prop) → XK → Prop
structure GFn1 (P : Program) (w : World) (K : PySem.W.Frag) (mg : Str → Option Value) (base : Heap) (k : Nat) (f : Addr) (fd : FuncData) (ps : List Str) (sp : SpF) : Prop where
  len : ∀ vs H Q E, sp vs H Q E → vs.length = ps.length
  run : ∀ (A : Around) (outer : List Env) (s : Shared) (H : Hp) (args : Args) (us : List Value) (vs : List V) (Q : V → Hp → Prop) (E : XK), Room k A → Env0 P w K mg base A outer s H → BindsTo s fd args (ps.zip us) → Vals vs us → sp vs H Q E →
    codeAny (model P w) A (.call (.ref f) args) (fun r s' => match r with | .ok (.ret u) => GFst P w k outer H s Q E u s' | _ => False) s
/-- two statements, then the first yield -/
theorem gfn1_of {P : Program} {w : World} {K : PySem.W.Frag} {mg : Str → Option Value} {base : Heap} {k : Nat} {f : Addr} {name qual : Str} {params : Arguments} {st1 st2 : Stmt} {ey : Expr} {yp ypos : Pos} {rest : List Stmt} {scope : Scope} {dV kV doc pm cdv ct oc : Value} {an od : Option Addr}
    {osl : Array (Option Value)} {N ps : List Str} {sp : SpF} (found : K.lookup f = some ⟨oc, od, .func (PySem.W.fnOf name qual params (st1 :: st2 :: .Expr (.Yield (some ey) yp) ypos :: rest) scope dV kV doc pm an cdv ct), osl⟩) (coded : PySem.W.codeIn K cdv qual = true) (S : GScope N ps scope)
    (len : ∀ vs H Q E, sp vs H Q E → vs.length = ps.length) (inter : ∀ n : Nat, interactive (envOfC qual scope n f cdv) = false)
    (inner : ∀ (A : Around) (outer : List Env) (s : Shared) (H : Hp) (vs : List V) (Q : V → Hp → Prop) (E : XK) (pn : List (Addr × Obj)), Room k (A.deeper (envOfC qual scope s.heap.objs.size f cdv)) → sp vs H Q E →
      ∃ t1 t2 te, PS (gcxOf P w K mg base N qual scope f cdv A outer s H E pn) st1 t1 ∧ PS (gcxOf P w K mg base N qual scope f cdv A outer s H E pn) st2 t2 ∧ PE (gcxOf P w K mg base N qual scope f cdv A outer s H E pn) ey te ∧
        t1 { nx := fun σ1 H1 => t2 { nx := fun σ2 H2 => te σ2 H2 Q, rt := fun _ _ => False } σ1 H1, rt := fun _ _ => False } (start N vs) H) :
    GFn1 P w K mg base (k + 1) f (PySem.W.fnOf name qual params (st1 :: st2 :: .Expr (.Yield (some ey) yp) ypos :: rest) scope dV kV doc pm an cdv ct) ps sp := by
  refine ⟨len, fun A outer s H args us vs Q E room e0 bound rel wish => ?_⟩
  have few := len _ _ _ _ wish
  have inK : K.In s.heap := e0.mod.kin.keeps fun b o e => (e0.bs b o e).1
  have noLim : s.heap.NoLimit := e0.mod.nolimit.keeps fun b o e => (e0.bs b o e).1
  have kinds : ∀ y ∈ ps.zip us, scope.names.lookup y.1 = some .local ∨ (scope.names.lookup y.1 = some .cell ∧ ((cellsFrom (s.heap.objs.size + 1) scope.names []).lookup y.1).isSome = true) := fun ⟨n, v⟩ hy =>
    (S.par n (List.of_mem_zip hy).1).elim .inl fun z => .inr ⟨z, PySem.W.cellsFrom_some _ _ _ (.inl z)⟩
  refine codeAny_call_generator room.depth (inK _ _ found) rfl S.co S.gen rfl (PySem.W.codeRec_of inK coded) (bound _ _ _ _ ?_)
  refine wpAny_newFunctionEnv_cells S.kind kinds fun env he s1 made => ?_
  subst he
  have lim1 : s1.heap.NoLimit := noLim.keeps made.toInCall.keep
  refine ⟨lim1, ?_⟩
  obtain ⟨h1, tk, es1, keep1⟩ := made.done
  have os1 : s1.os = s.os := by rw [es1]
  have gen1 : s1.gens = s.gens := by rw [es1]
  have lt1 : s.heap.objs.size < s1.heap.objs.size := made.toInCall.ns.lt
  have keepS : ∀ b o, s.heap.get? b = some o → s1.heap.get? b = some o := made.toInCall.keep
  suffices main : ∀ (go : Obj) (nm qn : Value) (tk2 : Nat), go.cls = .type "generator" → go.data = .fields #[.int s1.gens.size 0, nm, qn] → go.slots = #[] → (∀ h : Heap, (h.push go).get? h.objs.size = some go) →
      GFst P w (k + 1) outer H s Q E (.ref s1.heap.objs.size) { s1 with gens := s1.gens.push (.fresh (.func (st1 :: st2 :: .Expr (.Yield (some ey) yp) ypos :: rest) (envOfC qual scope s.heap.objs.size f cdv))), toks := tk2, heap := s1.heap.push go } from
    main _ _ _ _ rfl rfl rfl fun h => Heap.get?_push_size _ rfl
  intro go nm qn tk2 isG dataG slotsG pushG
  have isGen : ∀ h : Heap, h.get? s1.heap.objs.size = some go → h.IsGen s1.heap.objs.size s1.gens.size := fun h e => ⟨go, nm, qn, e, isG, dataG, slotsG⟩
  refine ⟨s1.heap.objs.size, s1.gens.size, _, rfl, Nat.le_of_lt lt1, isGen _ (pushG _), Array.getElem?_push_size .., os1, AllBare.push (by rw [gen1]; exact e0.bare) rfl, lim1.keeps fun b o e => Heap.get?_push_of_some _ e, fun b o e => Heap.get?_push_of_some _ (keepS b o e), ?_⟩
  intro Aw s2 roomW framesW keep2 os2 bare2
  have e0w : Env0 P w K mg base Aw outer s H := ⟨framesW, e0.mod, e0.bs, e0.bsz, e0.funs, e0.frf, e0.hok, e0.bare⟩
  obtain ⟨t1, t2, te, p1, p2, pe, reading⟩ := inner Aw outer s H vs Q E [(s1.heap.objs.size, go)] (roomW.deeper _) wish
  have I1 : Inv (gcxOf P w K mg base N qual scope f cdv Aw outer s H E []) [] (start N vs) H s1 := inv_startG S roomW.hd e0w few rel made
  have keep12 : ∀ b o, s1.heap.get? b = some o → s2.heap.get? b = some o := fun b o e => keep2 b o (Heap.get?_push_of_some _ e)
  have I2 : Inv (gcxOf P w K mg base N qual scope f cdv Aw outer s H E []) [] (start N vs) H s2 :=
    I1.call' (ch := []) (os2.trans os1.symm) (Un.kept keep12) (I1.hok.kept keep12) bare2 fun b z => by simp at z
  have thereG : s2.heap.get? s1.heap.objs.size = some go := keep2 s1.heap.objs.size go (pushG _)
  have I3 : Inv (gcxOf P w K mg base N qual scope f cdv Aw outer s H E [(s1.heap.objs.size, go)]) [] (start N vs) H s2 := Inv.pinnedG I2 fun p hp => by
    have hp' : p = (s1.heap.objs.size, go) := by simpa using hp
    rw [hp']
    exact ⟨thereG, I1.hok.fresh (Nat.le_refl _), Nat.ne_of_gt lt1, I1.nofs (Nat.le_refl _), fun v q => by rw [dataG] at q; cases q⟩
  have stillG : ∀ {σ' : L2.St} {H' : Hp} {s' : Shared}, Inv (gcxOf P w K mg base N qual scope f cdv Aw outer s H E [(s1.heap.objs.size, go)]) [] σ' H' s' → s'.heap.IsGen s1.heap.objs.size s1.gens.size := fun J =>
    isGen _ (J.pin (s1.heap.objs.size, go) (by simp [gcxOf])).1
  refine seg_func ?_
  have away : ∀ (n : Nat) (s₀ : Shared) (e : Value) (s' : Shared), (gcxOf P w K mg base N qual scope f cdv Aw outer s H E [(s1.heap.objs.size, go)]).xe e s' →
      Seg (model P w) Aw (R1 P w outer H s s1.heap.objs.size s1.gens.size E) (Y1 P w outer H s s1.heap.objs.size s1.gens.size Q) n s₀ (.func (st1 :: st2 :: .Expr (.Yield (some ey) yp) ypos :: rest) (envOfC qual scope s.heap.objs.size f cdv))
        ((leaving (envOfC qual scope s.heap.objs.size f cdv) e).wrap (fun _ => .raise e) .raise id id) [] s' := fun n s₀ e s' hx => by
    refine seg_wrap ?_
    rw [over_func]
    refine wpAny_mono (show wpAny (model P w) (Aw.deeper (envOfC qual scope s.heap.objs.size f cdv)) (leaving (envOfC qual scope s.heap.objs.size f cdv) e) (fun _ s'' => CX P w outer H s E e s'' ∧ ∀ p ∈ [(s1.heap.objs.size, go)], s''.heap.get? p.1 = some p.2) (fun _ _ => False) s' from hx) (fun _ s'' q => ?_) fun _ s'' q => q.elim
    exact seg_end (.error e) ⟨e, rfl, q.1, isGen _ (q.2 (s1.heap.objs.size, go) (List.mem_singleton.mpr rfl))⟩
  refine seg_execs_cons (seg_wrap ?_)
  rw [over_func]
  refine wpAny_mono (p1.run [] s2 (start N vs) H _ I3 reading) (fun fl s3 q3 => ?_) fun e s3 hx => away _ _ e s3 hx
  cases fl with
  | brk => exact q3.elim fun _ z => z.elim fun _ z => False.elim z.2
  | cont => exact q3.elim fun _ z => z.elim fun _ z => False.elim z.2
  | ret u => exact q3.elim fun _ z => z.elim fun _ z => z.elim fun _ z => False.elim z.2.2
  | next =>
    obtain ⟨σ3, H3, J3, r3⟩ := q3
    refine seg_execs_cons (seg_wrap ?_)
    rw [over_func]
    refine wpAny_mono (p2.run [] s3 σ3 H3 _ J3 r3) (fun fl s4 q4 => ?_) fun e s4 hx => away _ _ e s4 hx
    cases fl with
    | brk => exact q4.elim fun _ z => z.elim fun _ z => False.elim z.2
    | cont => exact q4.elim fun _ z => z.elim fun _ z => False.elim z.2
    | ret u => exact q4.elim fun _ z => z.elim fun _ z => z.elim fun _ z => False.elim z.2.2
    | next =>
      obtain ⟨σ4, H4, J4, r4⟩ := q4
      refine seg_execs_cons (seg_Expr_Yield rfl rfl rfl ?_ S.co (inter _))
      rw [over_func]
      refine wpAny_mono (pe.run [] s4 σ4 H4 _ J4 r4) (fun v s5 q5 => ?_) fun e s5 hx => away _ _ e s5 hx
      obtain ⟨x, H5, J5, rv, q⟩ := q5
      intro kap hk
      exact ⟨J5.os, J5.bare, stillG J5, x, H5, J5.base, J5.hok, rv, q⟩
end Sq
namespace Sq
open PySem PySem.Spec PyProof.Rows L2 GenW
/-- for x in g(e, ..): break -/
def tFirst (sp : SpF) (E : L2.St → XK) (t : TA) (i : Nat) : TS := fun D σ H => t σ H fun vs H1 => sp vs H1 (fun v H2 => D.nx (σ.set i (some v)) H2) (E σ)
section
variable {X : Cx} {k i : Nat} {f : Addr} {fd : FuncData} {ps : List Str} {sp : SpF} {E : L2.St → XK} {x y : Str} {p op bp cpos pos : Pos} {e : Expr} {es : List Expr} {t : TA}
theorem ps_first (F : GFn1 X.prog X.w X.K X.mg X.base k f fd ps sp) (hr : Room (k + 1) X.A) (hg : Gl X x) (hm : X.mg x = some (.ref f)) (hk : PySem.W.keepIn X.K (.ref f) = true) (hb : Binds X.K fd ps []) (ha : PA X (e :: es) t)
    (hx : ∀ σ, PassesAt (L2.CX X.prog X.w) X σ (E σ)) (ns : ∀ σ, NoStop X.K (E σ)) (own : PassesOwn (model X.prog X.w) X.A X.env X.xe) (hN : X.N.Nodup) (hi : X.N[i]? = some y) (hl : Loc X.env.scope y) (hfn : X.fn y = true ∨ X.env.scope.names.lookup y = some .local)
    (hdb : (x == ("__debug__" : Str)) = false := by decide) (he : starEach (e :: es) X.env = (false, eval e X.env) :: starEach es X.env := by rfl) (hpl : (backTo cpos (starEach es X.env)).any (·.1) = false := by rfl) :
    PS X (.For (.Name y op) (.Call (.Name x p) (e :: es) [] cpos) [.Break bp] [] pos) (tFirst sp E t i) := by
  refine ⟨fun pins s σ H D I h => ?_⟩
  refine wpAny_For (wpAny_Call_Name_kw (ld_glob I hg hm ?_ hdb)) (by intro _; rfl)
  refine PySem.W.callWith_K (h₀ := X.base) I.ok.mod.kin hk (thn (ha.run cpos pins s σ H _ I h) fun us s1 hh => ?_) he hpl
  obtain ⟨vs, H1, I1, r1, q⟩ := hh
  refine ⟨I1.kIn, ?_⟩
  have few : us.length = ps.length := by rw [← r1.length]; exact F.len _ _ _ _ q
  have bind := hb s1 us I1.kIn (by rw [List.append_nil]; exact few)
  rw [List.append_nil] at bind
  refine wpAny_call (codeAny_mono (F.run X.A X.stack s1 H1 ⟨us, []⟩ us vs _ (E σ) (hr.mono (by omega)) I1.env0 bind r1 q) fun r s2 hq => ?_)
  match r, hq with
  | .ok (.ret u), hq =>
    obtain ⟨a, g, c, rfl, ha1, isG, fresh, os2, bare2, lim2, keep2, wake⟩ := hq
    refine wpAny_pyIter_gen isG ?_
    refine codeAny_forLoop_any (fun n s' => s' = s2) (fun n s' hs => ?_) 0 rfl
    subst hs
    have seg := wake X.A.in1 (s'.setGen g .running) ⟨hr.hd, by have := hr.dp; show X.A.depth + 3 * k + 5 < _; omega, by have := hr.un; show X.A.units + 1 + 16 * k + 200 < _; omega⟩ I1.ok.frames (fun b o e => e) os2 (allBare_setGen bare2 rfl)
    have goes : (GenState.fresh c).Goes (model X.prog X.w) X.A.in1 (fun n s₀ r s₁ => ((r = .ok (.ret .none) ∨ r = .ok .next) ∧ False) ∨ ∃ e, r = .error e ∧ (CX X.prog X.w X.stack H1 s1 (E σ) e s₁ ∧ s₁.heap.IsGen a g)) (Y1 X.prog X.w X.stack H1 s1 a g (fun v H2 => D.nx (σ.set i (some v)) H2)) 1 (.send .none) (s'.setGen g .running) :=
      ⟨rfl, seg_imp (R := R1 X.prog X.w X.stack H1 s1 a g (E σ)) (Y := Y1 X.prog X.w X.stack H1 s1 a g (fun v H2 => D.nx (σ.set i (some v)) H2)) (fun n s₀ r s z => Or.inr z) (fun n s₀ v s kap kap' _ z => z) 1 seg⟩
    refine next_genG (A := X.A) (F := fun _ _ _ => False) hr.hd lim2 (by have := hr.dp; omega) isG fresh goes (fun v s₁ gs' bare' hv => ?_) (fun s₁ z => z.elim) fun er s₁ he => ?_
    · obtain ⟨os3, bare3, isG3, z, H3, un3, ok3, rv, qv⟩ := hv
      have I3 : Inv X pins σ H3 (s₁.setGen g gs') := I1.call' (ch := []) os3 un3 ok3 (allBare_setGen bare3 bare') fun b z => by simp at z
      refine wpAny_of_eq (rfl : letOwnedTupleGo (.Name y op) (.ref a) v = pure ()) ?_
      refine wpAny_passesOwn own (thn ((pg_name hN hi hl hfn).run pins _ σ H3 z v (fun σ2 H2 => D.nx σ2 H2) I3 rv qv) fun _ s4 h4 => ?_)
      obtain ⟨σ4, H4, I4, q4⟩ := h4
      exact wpAny_execs_cons (wpAny_Break ⟨σ4, H4, I4, q4⟩)
    · obtain ⟨hc, hg1⟩ := he
      have kin : X.K.In s₁.heap := by
        obtain ⟨b1, B, H2, cls, d, _, fl, _, ub, _⟩ := id hc
        refine I1.ok.mod.kin.keeps fun b o eb => fl.1 b o (ub.keep b o (I1.bs b o eb).1 (I1.bs b o eb).2 fun hm => ?_)
        rcases List.mem_cons.mp (I1.stkSub b hm) with z | z
        · have low := Heap.lt_size eb
          rw [z] at low
          exact absurd (Nat.lt_of_lt_of_le low (Nat.le_trans I1.ok.bsz I1.ok.above)) (Nat.lt_irrefl _)
        · exact I1.ok.nofr eb z
      refine ⟨hg1, notStop_of (ns σ) kin hc, own _ _ (hx σ pins H1 s1 er _ I1 ?_)⟩
      obtain ⟨b1, B, H2, cls, d, z1, fl, z2, ub, z3, z4, z5, z6⟩ := hc
      exact ⟨b1, B, H2, cls, d, z1, fl, z2, ub, z3, z4, allBare_setGen z5 rfl, z6⟩
end
end Sq

set_option Elab.async false
set_option linter.all false
set_option maxRecDepth 100000
set_option maxHeartbeats 2000000
/-! Calls that may raise. -/
namespace Sq
open PySem PySem.Spec PyProof.Rows L2
structure Dx (P : Program) (w : World) (K : PySem.W.Frag) (mg : Str → Option Value) (base : Heap) (k : Nat) (x : Str) (ps : List Str) (sp : Sp) : Prop where
  ex : ∃ f fd, FnOk P w K mg base (L2.CX P w) k f fd ps sp ∧ mg x = some (.ref f) ∧ PySem.W.keepIn K (.ref f) = true ∧ Binds K fd ps []
structure Dxk (P : Program) (w : World) (K : PySem.W.Frag) (mg : Str → Option Value) (base : Heap) (k : Nat) (x : Str) (ps ks : List Str) (g : List Value → List Value → List Value) (gV : List V → List V → List V) (sp : Sp) : Prop where
  ex : ∃ f fd, FnOk P w K mg base (L2.CX P w) k f fd ps sp ∧ mg x = some (.ref f) ∧ PySem.W.keepIn K (.ref f) = true ∧ KBn K fd ps 0 ks g gV
structure Dx1 (P : Program) (w : World) (K : PySem.W.Frag) (mg : Str → Option Value) (base : Heap) (k : Nat) (x : Str) (ps : List Str) (sp : SpF) : Prop where
  ex : ∃ f fd, GFn1 P w K mg base k f fd ps sp ∧ mg x = some (.ref f) ∧ PySem.W.keepIn K (.ref f) = true ∧ Binds K fd ps []
theorem Dx.mk' {P : Program} {w : World} {K : PySem.W.Frag} {mg : Str → Option Value} {base : Heap} {k : Nat} {x : Str} {st : Stmt} {ps : List Str} {sp : Sp} {f : Addr} {fd : FuncData} (F : Fun K x x st f fd) (G : FnOk P w K mg base (L2.CX P w) k f fd ps sp) (g : mg x = some (.ref f)) (b : Binds K fd ps []) : Dx P w K mg base k x ps sp :=
  ⟨⟨f, fd, G, g, F.kp, b⟩⟩
section
variable {P : Program} {w : World} {K : PySem.W.Frag} {mg : Str → Option Value} {base : Heap} {N : List Str} {qual : Str} {scope : Scope} {f : Addr} {cd : Value} {A : Around} {outer : List Env} {s : Shared} {H : Hp} {E : XK}
theorem takesX : Takes (cxOf (L2.CX P w) P w K mg base N qual scope f cd A outer s H E) (fun cls d _ H' => E cls d H') := takes_of rfl rfl rfl rfl
theorem ownsX : PassesOwn (model P w) (cxOf (L2.CX P w) P w K mg base N qual scope f cd A outer s H E).A (cxOf (L2.CX P w) P w K mg base N qual scope f cd A outer s H E).env (cxOf (L2.CX P w) P w K mg base N qual scope f cd A outer s H E).xe := passes_of rfl
end
section
variable {X : Cx} {k : Nat} {ps ks : List Str} {sp : Sp} {x : Str} {p pos : Pos} {e : Expr} {es : List Expr} {t tk : TA} {W : WX} {kws : List Keyword} {g : List Value → List Value → List Value} {gV : List V → List V → List V}
theorem pe_callX (D : Dx X.prog X.w X.K X.mg X.base k x ps sp) (takes : Takes X W) (hr : Room k X.A) (hg : Gl X x) (ha : PA X (e :: es) t) (hdb : (x == ("__debug__" : Str)) = false := by decide)
    (he : starEach (e :: es) X.env = (false, eval e X.env) :: starEach es X.env := by rfl) (hpl : (backTo pos (starEach es X.env)).any (·.1) = false := by rfl) :
    PE X (.Call (.Name x p) (e :: es) [] pos) (tCallS sp (WE W) t) := by
  obtain ⟨f, fd, F, g, kp, b⟩ := D.ex
  exact pe_callS F hr hg g kp b (passAt takes) ha hdb he hpl
/-- f(k = v, ..), which may raise -/
def tCallKX (n : Nat) (sp : Sp) (gV : List V → List V → List V) (E : L2.St → XK) (tk : TA) : TE := fun σ H Q => tk σ H fun zs H1 => zs.length = n ∧ sp (gV [] zs) H1 Q (E σ)
theorem pe_callXK (D : Dxk X.prog X.w X.K X.mg X.base k x ps ks g gV sp) (takes : Takes X W) (hr : Room k X.A) (hg : Gl X x) (hkw : PK X kws tk)
    (hall : (backToKw pos (keywordEach kws X.env)).all (·.1.isSome) = true := by rfl) (hks : (backToKw pos (keywordEach kws X.env)).filterMap (·.1) = ks := by rfl) (hdb : (x == ("__debug__" : Str)) = false := by decide)
    (hpl : ((backTo pos (starEach [] X.env)).any (·.1) || (backToKw pos (keywordEach kws X.env)).any (·.1.isNone)) = false := by rfl) :
    PE X (.Call (.Name x p) [] kws pos) (tCallKX ks.length sp gV (WE W) tk) := by
  obtain ⟨f, fd, F, hm, kp, hb⟩ := D.ex
  refine ⟨fun pins s σ H Q I h => ?_⟩
  refine wpAny_Call_Name_kw (ld_glob I hg hm ?_ hdb)
  refine PySem.W.callWith_KW0 (h₀ := X.base) I.ok.mod.kin kp hall ?_ hpl
  refine thn (hkw.run pos pins s σ H _ I h) ?_
  rintro ws s2 ⟨zs, H2, I2, rz, l2, q2⟩
  refine ⟨I2.kIn, ?_⟩
  rw [hks]
  have to := hb.to s2 [] ws I2.kIn rfl (rz.length.symm.trans l2)
  refine wpAny_call (codeAny_mono (F.run X.A X.stack s2 H2 ⟨[], ks.zip ws⟩ (g [] ws) (gV [] zs) Q (WE W σ) hr I2.env0 to (hb.rel .nil rz) q2) fun r s' hq => ?_)
  match r, hq with
  | .error u, hq => exact passAt takes σ pins H2 s2 u s' I2 hq
  | .ok (.ret u), hq => exact I2.after hq
end
/-- the same for a walk that is left at its first item -/
def EF (K : PySem.W.Frag) (W : WX) : L2.St → XK := fun σ cls d H => W cls d σ H ∧ PySem.W.subIn K cls (.type "StopIteration") = some false
section
variable {X : Cx} {k i : Nat} {ps : List Str} {sp : SpF} {x y : Str} {p op bp cpos pos : Pos} {e : Expr} {es : List Expr} {t : TA} {W : WX}
theorem ps_firstD {K0 : PySem.W.Frag} (sameK : X.K = K0) (D : Dx1 X.prog X.w X.K X.mg X.base k x ps sp) (takes : Takes X W) (hr : Room (k + 1) X.A) (hg : Gl X x) (ha : PA X (e :: es) t) (own : PassesOwn (model X.prog X.w) X.A X.env X.xe) (hN : X.N.Nodup) (hi : X.N[i]? = some y) (hl : Loc X.env.scope y)
    (hfn : X.fn y = true ∨ X.env.scope.names.lookup y = some .local) (hdb : (x == ("__debug__" : Str)) = false := by decide)
    (he : starEach (e :: es) X.env = (false, eval e X.env) :: starEach es X.env := by rfl) (hpl : (backTo cpos (starEach es X.env)).any (·.1) = false := by rfl) :
    PS X (.For (.Name y op) (.Call (.Name x p) (e :: es) [] cpos) [.Break bp] [] pos) (tFirst sp (EF K0 W) t i) := by
  obtain ⟨f, fd, F, g, kp, b⟩ := D.ex
  subst sameK
  exact ps_first (E := EF X.K W) F hr hg g kp b ha (fun σ pins H s e s' I c => passAt (W := fun cls d σ H => W cls d σ H ∧ PySem.W.subIn X.K cls (.type "StopIteration") = some false) (takes.imp fun _ _ _ _ z => z.1) σ pins H s e s' I c) (fun σ cls d H (z : EF X.K W σ cls d H) => z.2) own hN hi hl hfn hdb he hpl
end
/-- list.count(True) of bools -/
def rCountB (K : PySem.W.Frag) : V → List V → Hp → VK → Prop := fun x xs H Q => ∃ (p : Addr) (bs : List Bool) (k : Bool), x = .ref p ∧ xs = [.bl k] ∧ SqL K H p (bs.map V.bl) ∧ Q (.int (bs.count k : Nat)) H
theorem reads_bools : ∀ {bs : List Bool} {its : List Value} {hp : Heap}, Vals (bs.map V.bl) its → ∃ as, ReadsAll hp its (bs.map PyData.bool) as
  | [], _, _, r => by
    cases r
    exact ⟨_, ReadsAll.nil⟩
  | b :: bs, _, hp, r => by
    cases r with
    | cons r1 r2 =>
      rename_i u us
      obtain rfl : u = Value.bool b := r1
      obtain ⟨as, h⟩ := reads_bools (hp := hp) r2
      exact ⟨_, ReadsAll.cons (Reads.bool b) h⟩
theorem count_bools (k : Bool) : ∀ bs : List Bool, Spec.countIn (.bool k) (bs.map PyData.bool) = bs.count k
  | [] => rfl
  | b :: bs => by
    show (if Spec.same (.bool b) (.bool k) then 1 else 0) + Spec.countIn (.bool k) (bs.map PyData.bool) = ((b :: bs).count k : Nat)
    rw [count_bools k bs, List.count_cons]
    cases b <;> cases k <;> simp [Spec.same] <;> omega
theorem all_bools : ∀ bs : List Bool, (bs.map PyData.bool).all Shape.bool.has = true
  | [] => rfl
  | _ :: bs => all_bools bs
theorem mt_countB {X : Cx} : MtR X "list.count" (rCountB X.K) := by
  intro pins s σ H x xs v us Q I rx rxs h
  obtain ⟨p, bs, k, rfl, rfl, hs, q⟩ := h
  obtain rfl : v = Value.ref p := rx
  obtain ⟨u, rfl, ru⟩ := rxs.one
  obtain rfl : u = Value.bool k := ru
  obtain ⟨its, rv, hl, _⟩ := I.list hs
  obtain ⟨as, ra⟩ := reads_bools (hp := s.heap) rv
  refine count_list_bools hl.isList ra ?_ ⟨.int (bs.count k : Nat), H, I.tok _, ⟨s.toks, ?_⟩, q⟩
  · exact all_bools bs
  · rw [count_bools]
/-- what is wanted of an error of the class at C that holds v -/
def Wish (E : XK) (C : Addr) (v : V) (H : Hp) : Prop := ∀ d, H d = none → E (.ref C) (some d) (upd H d (exd d [(("value" : Str), v)]))
end Sq

set_option Elab.async false
set_option linter.all false
set_option maxRecDepth 100000
set_option maxHeartbeats 4000000
/-! A def called within an except suite: walks over lists, pairs unpacked, comprehensions, the handled error asked. -/
namespace Sq
open PySem PySem.Spec PyProof.Rows L2 HotX L2H
section
variable {prog : Program} {w : World} {A : Around} {E : Value → Shared → Prop} {s : Shared}
/-- the walk over a list ends while an error is handled -/
theorem list_end_hot {it l x1 : Addr} {i : Nat} {items : Array Value} {Q : Option Value → Shared → Prop} (hot : HotAt A x1 s.heap)
    (hit : s.heap.IsListIter it l i) (lenσ : s.heap.IsList l items) (gotX : items[i]? = none)
    (hQ : ∀ h', Heap.ExtBut it s.heap h' → Q none { s with heap := h' }) : wpAny (model prog w) A (pyNext (.ref it)) Q E s := by
  obtain ⟨o, ho, mood, hd⟩ := id hit
  obtain ⟨ol, hol, _, nl, hdl⟩ := lenσ
  obtain ⟨hh, o1, vsB, h1, d1, c1⟩ := hot
  by_cases n1 : x1 = it
  · exfalso
    subst n1
    rw [ho] at h1
    cases h1
    rw [hd] at d1
    cases d1
    cases c1
  have k1 : (s.heap.update it (Obj.mapFields (·.setIfInBounds 0 Value.none))).get? x1 = some o1 := (Heap.get?_update_other _ _ (Ne.symm n1)).trans h1
  unfold pyNext
  refine wpAny_bind (wpAny_attempt (wpAny_callSpecial?_slot (name := Str.ofString "__next__") hit.typeIs slot_listiter_next
    (wpAny_call_entry slot_listiter_next hit.typeIs entry_listiter_next ?_ (args_listiter_next _))))
  show wpAny _ _ (field (.ref it) 0 >>= _) _ _ s
  refine wpAny_bind (wpAny_field ho hd (x := .ref l) rfl ?_)
  show wpAny _ _ (if (Value.ref l == Value.none) = true then _ else _) _ _ s
  rw [if_neg (show ¬ ((Value.ref l == Value.none) = true) from Bool.false_ne_true)]
  show wpAny _ _ (field (.ref it) 1 >>= _) _ _ s
  refine wpAny_bind (wpAny_field ho hd (x := .int i 0) rfl ?_)
  show wpAny _ _ (seqItems? (.ref l) >>= _) _ _ s
  refine wpAny_bind (wpAny_seqItems hol hdl ?_)
  simp only [Int.toNat_natCast, gotX]
  refine wpAny_bind (wpAny_rule (wpAny_bind (wpAny_setField ho hd (by simp) ?_)))
  show wpAny _ _ (newExc (.type "StopIteration") [] >>= _) _ _ _
  refine wpAny_bind ?_
  simp only [newExc, newTuple]
  refine wpAny_bind (wpAny_newObj_type ?_ (by size_fits))
  refine wpAny_bind (m := firstArgMember _ _) (wpAny_of_eq (a := Value.none) (by first | rfl | (simp only [firstArgMember]; rfl)) ?_)
  refine wpAny_newObj_type ?_ (by size_fits)
  refine raiseNew_hot ⟨hh, o1, vsB, Heap.get?_push_of_some _ (Heap.get?_push_of_some _ k1), d1, c1⟩ (Nat.ne_of_lt (Heap.lt_size (Heap.get?_push_of_some _ k1))) (Heap.get?_push_size _ rfl) rfl (by first | (simp; done) | (simp; omega) | (simp only [Array.size_append]; simp; omega)) ?_
  refine wpAny_bind (wpAny_isInstance (T := "StopIteration") (b := true) ⟨_, Heap.get?_update_self _ (Heap.get?_push_size _ rfl) rfl, rfl⟩ isSubtype_stop ?_)
  refine wpAny_pure (hQ _ fun b o nb e => ?_)
  have e2 : (s.heap.update it (Obj.mapFields (·.setIfInBounds 0 Value.none))).get? b = some o := (Heap.get?_update_other _ _ (Ne.symm nb)).trans e
  rw [Heap.get?_update_other _ _ (Nat.ne_of_gt (Heap.lt_size (Heap.get?_push_of_some _ e2)))]
  exact Heap.get?_push_of_some _ (Heap.get?_push_of_some _ e2)
/-- the same of a pair -/
theorem tup_end_hot {it t x1 : Addr} {i : Nat} {items : Array Value} {Q : Option Value → Shared → Prop} (hot : HotAt A x1 s.heap)
    (hit : IsTupIter s.heap it t i) (testsA : IsTup s.heap t items) (gotX : items[i]? = none)
    (hQ : ∀ h', Heap.ExtBut it s.heap h' → Q none { s with heap := h' }) : wpAny (model prog w) A (pyNext (.ref it)) Q E s := by
  obtain ⟨o, ho, mood, hd⟩ := id hit
  obtain ⟨ol, hol, _, nl, hdl⟩ := testsA
  obtain ⟨hh, o1, vsB, h1, d1, c1⟩ := hot
  by_cases n1 : x1 = it
  · exfalso
    subst n1
    rw [ho] at h1
    cases h1
    rw [hd] at d1
    cases d1
    cases c1
  have k1 : (s.heap.update it (Obj.mapFields (·.setIfInBounds 0 Value.none))).get? x1 = some o1 := (Heap.get?_update_other _ _ (Ne.symm n1)).trans h1
  unfold pyNext
  refine wpAny_bind (wpAny_attempt (wpAny_callSpecial?_slot (name := Str.ofString "__next__") hit.typeIs slot_tupleiter_next
    (wpAny_call_entry slot_tupleiter_next hit.typeIs entry_tupleiter_next ?_ (args_tupleiter_next _))))
  show wpAny _ _ (field (.ref it) 0 >>= _) _ _ s
  refine wpAny_bind (wpAny_field ho hd (x := .ref t) rfl ?_)
  show wpAny _ _ (if (Value.ref t == Value.none) = true then _ else _) _ _ s
  rw [if_neg (show ¬ ((Value.ref t == Value.none) = true) from Bool.false_ne_true)]
  show wpAny _ _ (field (.ref it) 1 >>= _) _ _ s
  refine wpAny_bind (wpAny_field ho hd (x := .int i 0) rfl ?_)
  show wpAny _ _ (seqItems? (.ref t) >>= _) _ _ s
  refine wpAny_bind (wpAny_seqItems hol hdl ?_)
  simp only [Int.toNat_natCast, gotX]
  refine wpAny_bind (wpAny_rule (wpAny_bind (wpAny_setField ho hd (by simp) ?_)))
  show wpAny _ _ (newExc (.type "StopIteration") [] >>= _) _ _ _
  refine wpAny_bind ?_
  simp only [newExc, newTuple]
  refine wpAny_bind (wpAny_newObj_type ?_ (by size_fits))
  refine wpAny_bind (m := firstArgMember _ _) (wpAny_of_eq (a := Value.none) (by first | rfl | (simp only [firstArgMember]; rfl)) ?_)
  refine wpAny_newObj_type ?_ (by size_fits)
  refine raiseNew_hot ⟨hh, o1, vsB, Heap.get?_push_of_some _ (Heap.get?_push_of_some _ k1), d1, c1⟩ (Nat.ne_of_lt (Heap.lt_size (Heap.get?_push_of_some _ k1))) (Heap.get?_push_size _ rfl) rfl (by first | (simp; done) | (simp; omega) | (simp only [Array.size_append]; simp; omega)) ?_
  refine wpAny_bind (wpAny_isInstance (T := "StopIteration") (b := true) ⟨_, Heap.get?_update_self _ (Heap.get?_push_size _ rfl) rfl, rfl⟩ isSubtype_stop ?_)
  refine wpAny_pure (hQ _ fun b o nb e => ?_)
  have e2 : (s.heap.update it (Obj.mapFields (·.setIfInBounds 0 Value.none))).get? b = some o := (Heap.get?_update_other _ _ (Ne.symm nb)).trans e
  rw [Heap.get?_update_other _ _ (Nat.ne_of_gt (Heap.lt_size (Heap.get?_push_of_some _ e2)))]
  exact Heap.get?_push_of_some _ (Heap.get?_push_of_some _ e2)
theorem unpack_hot {t x1 : Addr} {items : Array Value} {Q : List Value → Shared → Prop} (hot : HotAt A x1 s.heap) (testsA : IsTup s.heap t items)
    (hQ : ∀ h', Heap.ExtBut s.heap.objs.size s.heap h' → Q items.toList { s with heap := h' }) : wpAny (model prog w) A (unpackItems (.ref t) items.size none) Q E s := by
  have hlt : t ≠ s.heap.objs.size := by obtain ⟨o, ho, _⟩ := testsA; exact Nat.ne_of_lt (Heap.lt_size ho)
  unfold unpackItems
  refine wpAny_bind ?_
  · unfold notIterableAtAll
    refine wpAny_bind (wpAny_specialOf testsA.typeIs slot_tuple_iter.lookup ?_)
    refine wpAny_pure ?_
    simp only [Bool.false_eq_true, if_false]
    refine wpAny_bind (wpAny_holding (iter_tuple testsA ?_))
    refine wpAny_bind (wpAny_holding (draw_tuple hlt items.size 0 _ _ ⟨_, Heap.get?_push_size _ rfl, rfl, rfl⟩ (testsA.push _) (by omega) fun h₁ hit₁ hs₁ => ?_))
    have hall : List.take items.size (List.drop 0 items.toList) = items.toList := by
      rw [List.drop_zero]; exact List.take_of_length_le (by simp)
    rw [hall]
    rw [if_neg (by simp)]
    have ht₁ : IsTup h₁ t items := (testsA.push _).extBut hs₁.extBut hlt
    have hot₁ : HotAt A x1 h₁ := by
      obtain ⟨hh, o1, vsB, h1, d1, c1⟩ := hot
      exact ⟨hh, o1, vsB, hs₁.extBut x1 o1 (Nat.ne_of_lt (Heap.lt_size h1)) (Heap.get?_push_of_some _ h1), d1, c1⟩
    refine wpAny_bind (wpAny_holding (tup_end_hot hot₁ hit₁ ht₁ (by simp) fun h₂ he₂ => ?_))
    simp only [Option.isSome_none, Bool.false_eq_true, if_false]
    refine wpAny_pure (hQ h₂ fun b o hb e => he₂ b o hb (hs₁.extBut b o hb (Heap.get?_push_of_some _ e)))
theorem assign_tup_hot {env : Env} {elts : List Expr} {k} {pos : Pos} {t x1 : Addr} {items : Array Value} {Q : Unit → Shared → Prop} (hot : HotAt A x1 s.heap) (testsA : IsTup s.heap t items)
    (nsC : (assignEach elts env).length = items.size) (hstar : (assignEach elts env).findIdx? (·.1) = none)
    (h : ∀ h', Heap.ExtBut s.heap.objs.size s.heap h' → wpAny (model prog w) A (assignInOrder ((assignEach elts env).map (·.2)) items.toList) Q E { s with heap := h' }) :
    wpAny (model prog w) A (assign (.Tuple elts k pos) env (.ref t)) Q E s := by
  rw [assign_Tuple]
  refine wpAny_bind (wpAny_standAt ?_)
  unfold unpack
  rw [nsC, hstar]
  exact wpAny_bind (wpAny_holding (unpack_hot hot testsA h))
end
/-! ### hot contexts -/
/-- wherever the context's invariant holds an error is handled whose context is None -/
def HotW (X : Cx) : Prop := ∀ (pins : List (Addr × Obj)) (σ : L2.St) (H : Hp) (s : Shared), Inv X pins σ H s → ∃ x1, HotAt X.A x1 s.heap
theorem HotC.w {X : Cx} (c : HotC X) : HotW X := fun _ _ _ _ I => c.at I
theorem hot_pgTup {X : Cx} {es : List Expr} {k : Nat} {t : TGs} {n : Nat} {pos : Pos} (mood : HotW X) (h : PGs X es t)
    (nsC : (assignEach es X.env).length = n := by rfl) (hst : (assignEach es X.env).findIdx? (·.1) = none := by rfl) : PG X (.Tuple es k pos) (gTup X.K n t) := by
  refine ⟨fun pins s σ H v u Q I r hw => ?_⟩
  obtain ⟨a, xs, eqB, hq, lenσ, hw⟩ := hw
  subst eqB
  cases r
  obtain ⟨its, rv, testsA, hz⟩ := I.tuple hq
  obtain ⟨x1, hot⟩ := mood _ _ _ _ I
  refine assign_tup_hot hot testsA (by simp [nsC, ← lenσ, rv.length]) hst fun h' gotX => ?_
  have I1 : Inv X pins σ H { s with heap := h' } := I.kept (t' := s.toks) fun b o e => gotX b o (Nat.ne_of_lt (Heap.lt_size e)) e
  exact h.run pins _ σ H xs _ Q I1 (by simpa using rv) hw
structure TurnW (P : Program) (w : World) (K : PySem.W.Frag) (tg : Expr) (J : It) (fp : List Addr) (it : Addr) (tn : Nat → Heap → Prop) : Prop where
  mem : it ∈ fp
  obj : ∀ i h, tn i h → ∀ b ∈ fp, ∃ o, h.get? b = some o ∧ ∀ v, o.data ≠ .cell v
  keep : ∀ i h h', tn i h → (∀ b ∈ fp, ∀ o, h.get? b = some o → h'.get? b = some o) → tn i h'
  item : ∀ (X : Cx), X.prog = P → X.w = w → X.K = K → HotW X → ∀ (i : Nat) (pins : List (Addr × Obj)) (s : Shared) (σ : L2.St) (H : Hp) (E : Value → Shared → Prop), Inv X pins σ H s → (∀ b ∈ fp, FpOk X pins H b) → tn i s.heap → J.go i H →
    wpAny (model P w) X.A (pyNext (.ref it)) (fun r sA => ∃ u, r = some u ∧
      wpAny (model P w) X.A (letOwnedTupleGo tg (.ref it) u) (fun _ sB => ∃ x H', Inv X pins σ H' sB ∧ RelV x u ∧ J.yld i H x H' ∧ tn (i + 1) sB.heap ∧ ∀ b ∈ fp, H' b = none) E sA) E s
  done : ∀ (X : Cx), X.prog = P → X.w = w → X.K = K → HotW X → ∀ (i : Nat) (pins : List (Addr × Obj)) (s : Shared) (σ : L2.St) (H : Hp) (E : Value → Shared → Prop), Inv X pins σ H s → (∀ b ∈ fp, FpOk X pins H b) → tn i s.heap → J.stop i H →
    wpAny (model P w) X.A (pyNext (.ref it)) (fun r sA => r = none ∧ Inv X pins σ H sA) E s
  self : ∀ (A : Around) (i : Nat) (s : Shared) (Q : Value → Shared → Prop) (E : Value → Shared → Prop), tn i s.heap → Q (.ref it) s → wpAny (model P w) A (pyIter (.ref it)) Q E s
theorem turn_listW {P : Program} {w : World} {K : PySem.W.Frag} {tg : Expr} (a it : Addr) : TurnW P w K tg (Itl K a) [it] it (fun i h => h.IsListIter it a i) where
  mem := by simp
  obj := fun i h st b hb => by
    have e : b = it := by simpa using hb
    subst e
    obtain ⟨o, e, c, d⟩ := st
    exact ⟨o, e, fun v z => by rw [d] at z; cases z⟩
  keep := fun i h h' st k => st.at fun o e => k it (by simp) o e
  item := by
    intro X hP hw hK mood i pins s σ H E I hf st targetA
    subst hP hw hK
    obtain ⟨xs, x, hq, gotX⟩ := targetA
    obtain ⟨its, rv, p, hz⟩ := I.list hq
    obtain ⟨u, hu, ru⟩ := rv.get gotX
    obtain ⟨f0, f1, f2, roam3, f4, f5⟩ := hf it (by simp)
    refine wpAny_pyNext_list_item st p.isList (x := u) (by simpa using hu) fun h' st' sb => ?_
    have I1 : Inv X pins σ H { s with heap := h' } := I.turned (t' := s.toks) (fun b o hb e => (sb.2 b hb).trans e) f0 f1 roam3 f4 f5
    obtain ⟨o, e, c, d⟩ := id st'
    exact ⟨u, rfl, go_of (s := { s with heap := h' }) e c d (by decide) ⟨x, H, I1, ru, ⟨rfl, fun ys hy => by rw [I.list_inj hy hq]; exact gotX⟩, st', fun b hb => (hf b hb).1⟩⟩
  done := by
    intro X hP hw hK mood i pins s σ H E I hf st targetA
    subst hP hw hK
    obtain ⟨xs, hq, gotX⟩ := targetA
    obtain ⟨its, rv, p, hz⟩ := I.list hq
    obtain ⟨f0, f1, f2, roam3, f4, f5⟩ := hf it (by simp)
    have lenσ := rv.length
    obtain ⟨x1, hot⟩ := mood _ _ _ _ I
    exact list_end_hot hot st p.isList (by simp; omega) fun h' eb => ⟨rfl, I.turned (t' := s.toks) (fun b o hb e => eb b o hb e) f0 f1 roam3 f4 f5⟩
  self := fun _ _ _ _ _ st h => wpAny_pyIter_listiter st h
def PIEW (X : Cx) (pins : List (Addr × Obj)) (σ : L2.St) (tg : Expr) (R : It → Hp → Prop) (itV : Value) (sB : Shared) : Prop :=
  ∃ (it : Addr) (fp : List Addr) (tn : Nat → Heap → Prop) (J : It) (H' : Hp), itV = .ref it ∧ Inv X pins σ H' sB ∧ TurnW X.prog X.w X.K tg J fp it tn ∧ tn 0 sB.heap ∧ (∀ b ∈ fp, FpOk X pins H' b) ∧ R J H'
structure PIW (X : Cx) (tg iter : Expr) (wi : TI) : Prop where
  run : ∀ (pins : List (Addr × Obj)) (s : Shared) (σ : L2.St) (H : Hp) (R : It → Hp → Prop), Inv X pins σ H s → wi σ H R →
    wpAny (model X.prog X.w) X.A (eval iter X.env) (fun v sA => wpAny (model X.prog X.w) X.A (pyIter v) (PIEW X pins σ tg R) X.xe sA) X.xe s
theorem hot_list {X : Cx} {tg l : Expr} {tl : TE} (lenσ : PE X l tl) : PIW X tg l (iList X.K tl) := by
  refine ⟨fun pins s σ H R I h => ?_⟩
  refine thn (lenσ.run pins s σ H _ I h) fun v sA ⟨x, H1, I1, r1, q1⟩ => ?_
  obtain ⟨a, e, ⟨xs, hq⟩, q⟩ := q1
  subst e
  cases r1
  obtain ⟨its, rv, p, hz⟩ := I1.list hq
  refine wpAny_pyIter_list p.isList ?_
  refine ⟨sA.heap.objs.size, [sA.heap.objs.size], _, _, H1, rfl, I1.kept (t' := sA.toks) fun b o e => Heap.get?_push_of_some _ e, turn_listW a _, ⟨_, Heap.get?_push_size _ rfl, rfl, rfl⟩, fun b hb => ?_, q⟩
  have e : b = sA.heap.objs.size := by simpa using hb
  subst e
  exact I1.fpOk (Nat.le_refl _) (I1.hok.fresh (Nat.le_refl _))
section
variable {X : Cx}
theorem lc_coreH {pins : List (Addr × Obj)} {s : Shared} {σ : L2.St} {H : Hp} {Q : VK} {elt tg iter : Expr} {ifs : List Expr} {scope : Scope} {own : List (Str × Nat)} {pos pos' : Pos} {wi : TI} {g : TG} {tt : TT} {te : TE} {use : Option (Value → Sem Unit)} {Qf : Value → Shared → Prop}
    (mood : HotC X) (nodupN : X.N.Nodup) (I : Inv X pins σ H s) (sourceA : PIW X tg iter wi) (ok : BlkOk X.N X.env.scope scope own)
    (targetA : ∀ (s : Shared) (H : Hp) (C : Addr) (cl : List (Str × Addr)) (fp : List Addr), HotW (X.blk s H scope (compEnvC scope cl C X.env) fp) → PG (X.blk s H scope (compEnvC scope cl C X.env) fp) tg g) (testsA : ∀ (s : Shared) (H : Hp) (C : Addr) (cl : List (Str × Addr)) (fp : List Addr), PTs (X.blk s H scope (compEnvC scope cl C X.env) fp) ifs tt)
    (elemA : ∀ (s : Shared) (H : Hp) (C : Addr) (cl : List (Str × Addr)) (fp : List Addr), PE (X.blk s H scope (compEnvC scope cl C X.env) fp) elt te) (plainA : ∀ x, foldedSetIterable iter X.env x = pure x)
    (h : tLc wi g tt te (own.map (·.2)) σ H Q)
    (back : ∀ D C s' m H', Inv X pins σ H' s' → Q (.ref D) H' → s'.heap.Ns C m → FpOk X pins H' C → compPost (model X.prog X.w) X.A X.xe use Qf (.ref D) C (.ok .next) s') :
    wpAny (model X.prog X.w) X.A (comprehension (.ListComp elt [⟨tg, iter, ifs, 0⟩] scope pos) scope X.env pos' (newList []) false (eval iter X.env) use) Qf X.xe s := by
  have captured : ∀ y ∈ scope.names, y.2 = .free → ∃ c, X.env.cells.lookup y.1 = some c := fun y hy e => by
    rcases ok.free y hy e with k | k
    · exact I.ok.has _ (.inl k)
    · exact I.ok.has _ (.inr k)
  refine wpAny_comprehension_free (use := use) rfl plainA (closure_ok captured) ok.kind (fun y hy e => by rw [ok.uniq y hy, e])
    (thn (sourceA.run pins s σ H _ I h) fun srcV sA gotX => thn gotX fun itV sB h2 => ?_)
  obtain ⟨it, fp, tn, J, HB, e, I2, T, st2, f2, q⟩ := h2
  subst e
  refine wpAny_newObj_type (newEnv_comp ?_) (by show 0 ≤ sizeLine; decide)
  generalize atD : sB.heap.objs.size = D
  have freshD : HB D = none := I2.hok.fresh (Nat.le_of_eq atD)
  obtain ⟨W, ⟨mes0, inv0⟩, walk0⟩ := q D freshD
  -- the new list
  generalize laid3 : ({ sB with heap := sB.heap.push { cls := .type "list", data := .seq ([] : List Value).toArray } } : Shared) = sC
  have J3 : Inv X pins σ (upd HB D (.lst [])) sC := by
    rw [← laid3]
    refine I2.laid (t' := sB.toks) (fun b o e => Heap.get?_push_of_some _ e) (Nat.le_of_eq atD) ⟨Nat.zero_le _, [], 0, .nil, ?_⟩
    rw [← atD]
    exact Heap.get?_push_size _ rfl
  have heap3 : sC.heap = sB.heap.push { cls := .type "list", data := .seq ([] : List Value).toArray } := by rw [← laid3]
  have below : ∀ b ∈ fp, b < sB.heap.objs.size := fun b hb => by
    obtain ⟨o, e, _⟩ := T.obj _ _ st2 b hb
    exact Heap.lt_size e
  have roam3 : ∀ b ∈ fp, FpOk X pins (upd HB D (.lst [])) b ∧ b < sC.heap.objs.size := fun b hb => by
    have hlt := below b hb
    refine ⟨⟨?_, (f2 b hb).2⟩, by rw [heap3, Heap.size_push]; exact Nat.lt_succ_of_lt hlt⟩
    rw [upd_ne (by rw [← atD]; exact Nat.ne_of_lt hlt)]
    exact (f2 b hb).1
  have turn3 : tn 0 sC.heap := T.keep _ _ _ st2 fun b _ o e => by rw [heap3]; exact Heap.get?_push_of_some _ e
  have J4 := block_start J3 ok nodupN roam3
  have tgt := targetA sC (upd HB D (.lst [])) sC.heap.objs.size (cellsFrom (sC.heap.objs.size + 1) scope.names (cloFrom X.env.cells scope.names [])) fp
  have tst := testsA sC (upd HB D (.lst [])) sC.heap.objs.size (cellsFrom (sC.heap.objs.size + 1) scope.names (cloFrom X.env.cells scope.names [])) fp
  have elm := elemA sC (upd HB D (.lst [])) sC.heap.objs.size (cellsFrom (sC.heap.objs.size + 1) scope.names (cloFrom X.env.cells scope.names [])) fp
  show codeAny _ _ (.compStart (.ListComp elt [⟨tg, iter, ifs, 0⟩] scope pos) 0 (.ref it) (.ref D) (compEnvC scope (cellsFrom (sC.heap.objs.size + 1) scope.names (cloFrom X.env.cells scope.names [])) sC.heap.objs.size X.env)) (compPost (model X.prog X.w) X.A X.xe use Qf (.ref D) sC.heap.objs.size) { sC with heap := pushCells (sC.heap.push { cls := .type "dict", data := .dict #[] }) scope.names }
  have untr : ∀ b ∈ fp, (upd HB D (.lst [])) b = none := fun b hb => (roam3 b hb).1.1
  generalize blkE : compEnvC scope (cellsFrom (sC.heap.objs.size + 1) scope.names (cloFrom X.env.cells scope.names [])) sC.heap.objs.size X.env = ce at J4 tgt tst elm ⊢
  have locE : ce.locals = sC.heap.objs.size := by subst blkE; rfl
  generalize heapE : upd HB D (.lst []) = HC at J3 J4 tgt tst elm inv0 untr roam3
  -- the error is handled in the block, too
  have hotB : HotW (X.blk sC HC scope ce fp) := by
    obtain ⟨p, ⟨hh, v1, eqB, c1⟩, hp⟩ := id mood
    have P1 := J3.pin p (List.mem_append_left _ hp)
    intro pinsB σB HB sB IB
    refine ⟨p.1, hh, p.2, v1, IB.base.keep p.1 p.2 P1.1 P1.2.1 (fun lessM => (List.mem_cons.mp (J3.stkSub p.1 lessM)).elim P1.2.2.1 P1.2.2.2.1) (fun lessM => ?_), eqB, c1⟩
    exact (roam3 p.1 lessM).1.2.2.2.2.2 p (List.mem_append_left _ hp) rfl
  have tgt := tgt hotB
  generalize laid4 : ({ sC with heap := pushCells (sC.heap.push { cls := .type "dict", data := .dict #[] }) scope.names } : Shared) = sD at J4 ⊢
  have turn4 : tn 0 sD.heap := T.keep _ _ _ turn3 fun b _ o e => by rw [← laid4]; exact pushCells_keeps _ _ _ _ (Heap.get?_push_of_some _ e)
  have stat : ∀ {σ' : L2.St} {H' : Hp} {s' : Shared}, Inv (X.blk sC HC scope ce fp) [] σ' H' s' → (∀ b ∈ fp, H' b = none) → ∀ b ∈ fp, FpOk (X.blk sC HC scope ce fp) [] H' b := fun {σ' H' s'} I' nsC b hb =>
    ⟨nsC b hb, (I'.ok.exf b hb).1, I'.ok.exfs b hb, .inl hb, fun x c e => (I'.ok.exf b hb).2 x c e, fun p hp => absurd (show p ∈ ([] : List (Addr × Obj)) ++ [] from hp) (by simp)⟩
  have outer0 : codeAny (model X.prog X.w) X.A (.compLoop (.ListComp elt [⟨tg, iter, ifs, 0⟩] scope pos) 0 (.ref it) (.ref D) ce) (compPost (model X.prog X.w) X.A X.xe use Qf (.ref D) sC.heap.objs.size) sD := by
    refine compLoop_any (fun n s' => ∃ i H', Inv (X.blk sC HC scope ce fp) [] (wipe σ (own.map (·.2))) H' s' ∧ tn i s'.heap ∧ (∀ b ∈ fp, H' b = none) ∧ W i n H') ?_ mes0 ⟨0, HC, J4, turn4, untr, inv0⟩
    rintro n sE ⟨i, HE, J5, turn5, un5, inv5⟩
    rcases walk0 i n HE inv5 with ⟨atEnd, done0⟩ | ⟨more, NxA, reach, step⟩
    · have ended := T.done (X.blk sC HC scope ce fp) rfl rfl rfl hotB i [] sE _ HE (fun _ _ => False) J5 (stat J5 un5) turn5 atEnd
      refine thnF ended fun r sF ⟨hr, J6⟩ => ?_
      subst hr
      -- back in the def's context
      have J7 : Inv X pins σ HE sF := J3.call' (ch := fp) J6.os J6.base J6.hok J6.bare fun b hb => ⟨(roam3 b hb).1.2.2.2.1, (roam3 b hb).1.2.1, (roam3 b hb).1.2.2.2.2.1, (roam3 b hb).1.2.2.2.2.2⟩
      have freeC : HE sC.heap.objs.size = none := by
        have z : HE ce.locals = none := J6.free
        rw [locE] at z
        exact z
      obtain ⟨m, nsC, _⟩ := J6.loc
      have nsC : sF.heap.Ns ce.locals m := nsC
      rw [locE] at nsC
      exact back D sC.heap.objs.size sF m HE J7 done0 nsC (J3.fpOk (Nat.le_refl _) freeC)
    · have given := T.item (X.blk sC HC scope ce fp) rfl rfl rfl hotB i [] sE _ HE (fun _ _ => False) J5 (stat J5 un5) turn5 more
      refine thnF given fun r sF ⟨u, hr, got6⟩ => ?_
      subst hr
      refine thnF got6 fun _ sG ⟨x, HG, J7, rel7, yld7, turn7, un7⟩ => ?_
      have J7p := J7.pinned (stat J7 un7) (T.obj _ _ turn7)
      refine thnF (tgt.run _ sG _ HG x u _ J7p rel7 (step x HG yld7)) fun _ sH ⟨τ, HH, J8, wip8, go8⟩ => ?_
      refine thnF (tst.run _ sH τ HH _ J8 go8) fun b sI ⟨HI, J9, go9⟩ => ?_
      -- the turn's end
      have close : ∀ {s' : Shared} {H' : Hp}, Inv (X.blk sC HC scope ce fp) ([] ++ pinsAt fp sG.heap) τ H' s' → NxA H' → ∃ m, m < n ∧ ∃ i H', Inv (X.blk sC HC scope ce fp) [] (wipe σ (own.map (·.2))) H' s' ∧ tn i s'.heap ∧ (∀ b ∈ fp, H' b = none) ∧ W i m H' := fun {s' H'} I' nextW => by
        obtain ⟨m', lessM, invM⟩ := reach H' nextW
        have kept : ∀ b ∈ fp, ∀ o, sG.heap.get? b = some o → s'.heap.get? b = some o ∧ H' b = none := fun b hb o e =>
          let z := I'.pin (b, o) (List.mem_append_right _ (List.mem_append_right _ (mem_pinsAt hb e)))
          ⟨z.1, z.2.1⟩
        have lenσ : (wipe σ (own.map (·.2))).length = τ.length := by rw [← wip8, wipe_length]
        refine ⟨m', lessM, i + 1, H', (I'.unpinned (pins := [])).weak lenσ (fun j v e => ?_), T.keep _ _ _ turn7 fun b hb o e => (kept b hb o e).1, fun b hb => ?_, invM⟩
        · rw [← wip8] at e
          exact (wipe_some e).1
        · obtain ⟨o, e, _⟩ := T.obj _ _ turn7 b hb
          exact (kept b hb o e).2
      cases b with
      | false =>
        simp only [Bool.false_eq_true, if_false] at go9 ⊢
        exact close J9 go9
      | true =>
        simp only [if_true] at go9 ⊢
        refine thnF (elm.run _ sI τ HI _ J9 go9) fun z sJ ⟨yv, HJ, J10, rel10, acc, acc10, room10, nextW⟩ => ?_
        exact app_ok (X := X.blk sC HC scope ce fp) J10 acc10 room10 rel10 fun sK J11 => close J11 nextW
  exact codeAny_compStart_list outer0 (T.self X.A 0 _ _ _ turn4 outer0)
/-- name = [..] on one line, the name a local, an error being handled -/
theorem hot_setLc {i : Nat} {y : Str} {py : Pos} {elt tg iter : Expr} {ifs : List Expr} {scope : Scope} {own : List (Str × Nat)} {pos spos : Pos} {wi : TI} {g : TG} {tt : TT} {te : TE} (mood : HotC X) (nodupN : X.N.Nodup) (hy : X.N[i]? = some y) (hyl : X.env.scope.names.lookup y = some .local)
    (hsw : swapsWith (.ListComp elt [⟨tg, iter, ifs, 0⟩] scope pos) (some (.Name y py)) spos.line X.env = pure true) (sourceA : PIW X tg iter wi) (ok : BlkOk X.N X.env.scope scope own)
    (targetA : ∀ (s : Shared) (H : Hp) (C : Addr) (cl : List (Str × Addr)) (fp : List Addr), HotW (X.blk s H scope (compEnvC scope cl C X.env) fp) → PG (X.blk s H scope (compEnvC scope cl C X.env) fp) tg g) (testsA : ∀ (s : Shared) (H : Hp) (C : Addr) (cl : List (Str × Addr)) (fp : List Addr), PTs (X.blk s H scope (compEnvC scope cl C X.env) fp) ifs tt)
    (elemA : ∀ (s : Shared) (H : Hp) (C : Addr) (cl : List (Str × Addr)) (fp : List Addr), PE (X.blk s H scope (compEnvC scope cl C X.env) fp) elt te) (plainA : ∀ x, foldedSetIterable iter X.env x = pure x := by intro _; rfl) :
    PS X (.Assign [.Name y py] (.ListComp elt [⟨tg, iter, ifs, 0⟩] scope pos) spos) (tAsg (tLc wi g tt te (own.map (·.2))) (gName i)) := by
  refine ⟨fun pins s σ H D I h => ?_⟩
  rw [exec_Assign_Name_used _ _ _ _ hsw]
  refine wpAny_bind (wpAny_standAt (wpAny_bind ?_))
  show wpAny _ X.A (do let _ ← comprehension (.ListComp elt [⟨tg, iter, ifs, 0⟩] scope pos) scope X.env (firstIterPos [⟨tg, iter, ifs, 0⟩] pos) (newList []) false (eval iter X.env) (some (assign (.Name y py) X.env))) _ _ s
  have h : tLc wi g tt te (own.map (·.2)) σ H (fun x H1 => gName i x σ H1 D.nx) := h
  refine wpAny_bind (thn (lc_coreH (Qf := fun _ s' => SP X pins D .next s') mood nodupN I sourceA ok targetA testsA elemA plainA h fun L C s' m H' I' q nsC f => ?_) fun _ s' hq => wpAny_pure (wpAny_pure hq))
  show wpAny _ _ (assign (.Name y py) X.env (.ref L)) _ _ _
  refine wpAny_assign_Name (store_ok2 (v := V.ref L) I' nodupN hy (.inl hyl) rfl (fun sB I2 ⟨a, sb, ha⟩ => ?_) (.inr hyl))
  obtain ⟨f0, f1, f2, roam3, f4, f5⟩ := f
  have haC : C ≠ a := by
    rcases ha with z | z
    · rw [z]; exact f1
    · exact fun e => f4 y a z e.symm
  refine ⟨m, nsC.sameBut sb haC, fun heap3 sb3 => ?_⟩
  exact ⟨_, H', I2.turned (t' := sB.toks) (fun b o hb e => (sb3.2 b hb).trans e) f0 f1 roam3 f4 f5, q⟩
end
end Sq

set_option Elab.async false
set_option linter.all false
set_option maxRecDepth 100000
set_option maxHeartbeats 4000000
/-! A def of the law called within an except suite with the caught error. -/
namespace Sq
open PySem PySem.Spec PyProof.Rows L2 HotX L2H
/-- what a def promises there: e the handled error, its class, its dict -/
abbrev SpZ := Addr → Value → Option Addr → Sp
structure FnHZ (P : Program) (w : World) (K : PySem.W.Frag) (mg : Str → Option Value) (base : Heap) (CX : CXT) (k : Nat) (f : Addr) (fd : FuncData) (ps : List Str) (sp : SpZ) : Prop where
  len : ∀ a c d vs H Q E, sp a c d vs H Q E → vs.length = ps.length
  run : ∀ (A : Around) (outer : List Env) (s : Shared) (H : Hp) (args : Args) (us : List Value) (vs : List V) (Q : VK) (E : XK) (p : Addr × Obj) (cls : Value) (d : Option Addr), RoomH k A → Hot1 A p → L2N.Zn cls d p.2 → PinOk outer H s p → Env0 P w K mg base A outer s H → BindsTo s fd args (ps.zip us) → Vals vs us → sp p.1 cls d vs H Q E →
    codeAny (model P w) A (.call (.ref f) args) (CR CX outer P w H s Q E) s
theorem fn_ofHZ {CX : CXT} {P : Program} {w : World} {K : PySem.W.Frag} {mg : Str → Option Value} {base : Heap} {k : Nat} {f : Addr} {x qual : Str} {st : Stmt} {fd : FuncData} {N ps : List Str} {sp : SpZ}
    (F : Fun K x qual st f fd) (S : FnScope N ps (defScope st)) (len : ∀ a c d vs H Q E, sp a c d vs H Q E → vs.length = ps.length)
    (hbody : ∀ (cdv : Value) (A : Around) (outer : List Env) (s : Shared) (H : Hp) (vs : List V) (Q : VK) (E : XK) (p : Addr × Obj) (cls : Value) (d : Option Addr), Hot1 A p → L2N.Zn cls d p.2 → RoomH k (A.deeper (envOfC qual (defScope st) s.heap.objs.size f cdv)) → sp p.1 cls d vs H Q E →
      ∃ t, PSs (cxH CX P w K mg base N qual (defScope st) f cdv A outer s H E p) (defBody st) t ∧ t { nx := fun _ H' => Q .non H', rt := Q } (L2.start N vs) H) :
    FnHZ P w K mg base CX (k + 1) f fd ps sp := by
  obtain ⟨oc, od, kV, doc, pm, an, cdv, ct, osl, rfl, lk, hcd⟩ := F.ex
  refine ⟨len, fun A outer s H args us vs Q E p cls d hr hot hz hpin e0 hb r hsp => ?_⟩
  have hl := len _ _ _ _ _ _ _ hsp
  have KX : K.In s.heap := e0.mod.kin.keeps fun b o e => (e0.bs b o e).1
  have lim : s.heap.NoLimit := e0.mod.nolimit.keeps fun b o e => (e0.bs b o e).1
  have hkind : ∀ y ∈ ps.zip us, (defScope st).names.lookup y.1 = some .local ∨ ((defScope st).names.lookup y.1 = some .cell ∧ ((cellsFrom (s.heap.objs.size + 1) (defScope st).names []).lookup y.1).isSome = true) := fun ⟨n, v⟩ hy => by
    rcases S.par n (List.of_mem_zip hy).1 with q | q
    · exact .inl q
    · exact .inr ⟨q, PySem.W.cellsFrom_some _ _ _ (.inl q)⟩
  refine codeAny_call_function hr.depth (KX _ _ lk) rfl S.co S.gen rfl (PySem.W.codeRec_of KX hcd) (hb _ _ _ _ ?_)
  refine wpAny_newFunctionEnv_cells S.kind hkind fun env he s1 x => ?_
  subst he
  refine ⟨lim.keeps x.toInCall.keep, codeAny_func ?_⟩
  obtain ⟨t, ht, hq⟩ := hbody cdv A outer s H vs Q E p cls d hot hz (hr.deeper _) hsp
  have I : Inv (cxH CX P w K mg base N qual (defScope st) f cdv A outer s H E p) [] (L2.start N vs) H s1 := inv_startH S hpin e0 hl r x
  refine wpAny_mono (ht.run [] s1 (L2.start N vs) H _ I hq) (fun fl s' hs => ?_) fun e s' hs => hs
  have fin : ∀ {σ' : L2.St} {H' : Hp} {v : V} {u : Value}, Inv (cxH CX P w K mg base N qual (defScope st) f cdv A outer s H E p) [] σ' H' s' → RelV v u → Q v H' → CE outer P w H s Q u s' :=
    fun {σ' H' v u} J rv q => ⟨v, H', J.os, J.bare, J.base, J.hok, rv, q⟩
  cases fl with
  | ret u =>
    obtain ⟨v, σ', H', J, rv, q⟩ := hs
    exact fin J rv q
  | next =>
    obtain ⟨σ', H', J, q⟩ := hs
    exact fin (v := V.non) (u := Value.none) J rfl q
  | brk =>
    obtain ⟨_, _, _, q⟩ := hs
    exact False.elim q
  | cont =>
    obtain ⟨_, _, _, q⟩ := hs
    exact False.elim q
/-- it stands at its name -/
structure Dz (P : Program) (w : World) (K : PySem.W.Frag) (mg : Str → Option Value) (base : Heap) (k : Nat) (x : Str) (ps : List Str) (sp : SpZ) : Prop where
  ex : ∃ f fd, FnHZ P w K mg base CX0 k f fd ps sp ∧ mg x = some (.ref f) ∧ PySem.W.keepIn K (.ref f) = true ∧ Binds K fd ps []
section
variable {X : Cx} {k : Nat} {ps : List Str} {sp : SpZ} {x : Str} {q pos : Pos} {e : Expr} {es : List Expr} {t : TA} {a : Addr} {oe : Obj} {cls : Value} {d : Option Addr} {pn : List (Addr × Obj)}
/-- the call, in the suite of the clause that caught the error at a -/
theorem pe_callHZ (D : Dz X.prog X.w X.K X.mg X.base k x ps sp) (hz : L2N.Zn cls d oe) (hf : ∃ vs, oe.data = .fields vs) (hr : Room k X.A) (hg : Gl X x) (ha : PA (X.suite a ((a, oe) :: pn)) (e :: es) t)
    (hdb : (x == ("__debug__" : Str)) = false := by decide) (he : starEach (e :: es) X.env = (false, eval e X.env) :: starEach es X.env := by rfl) (hpl : (backTo pos (starEach es X.env)).any (·.1) = false := by rfl) :
    PE (X.suite a ((a, oe) :: pn)) (.Call (.Name x q) (e :: es) [] pos) (tCallS (sp a cls d) (fun _ => E0) t) := by
  obtain ⟨f, fd, F, hm, hk, hb⟩ := D.ex
  obtain ⟨vs0, hd0⟩ := hf
  refine ⟨fun pins s σ H Q I h => ?_⟩
  refine wpAny_Call_Name_kw (ld_glob (X := X.suite a ((a, oe) :: pn)) I hg hm ?_ hdb)
  refine PySem.W.callWith_K (h₀ := X.base) I.ok.mod.kin hk (thn (ha.run pos pins s σ H _ I h) fun us s1 ⟨vs, H1, I1, r, q⟩ => ⟨I1.kIn, ?_⟩) he hpl
  have hl : us.length = ps.length := by rw [← r.length]; exact F.len _ _ _ _ _ _ _ q
  have b := hb s1 us I1.kIn (by rw [List.append_nil]; exact hl)
  rw [List.append_nil] at b
  have P1 := I1.pin (a, oe) (List.mem_append_left _ List.mem_cons_self)
  have hpin : PinOk X.stack H1 s1 (a, oe) := ⟨P1.1, P1.2.1, fun hm => (List.mem_cons.mp (I1.stkSub a hm)).elim P1.2.2.1 P1.2.2.2.1, P1.2.2.2.2⟩
  have hot : Hot1 (X.suite a ((a, oe) :: pn)).A (a, oe) := ⟨rfl, vs0, hd0, hz.2.2 vs0 hd0⟩
  have hrH : RoomH k (X.suite a ((a, oe) :: pn)).A := ⟨hr.dp, hr.un⟩
  refine wpAny_call (codeAny_mono (F.run (X.suite a ((a, oe) :: pn)).A X.stack s1 H1 ⟨us, []⟩ us vs Q (fun _ _ _ => False) (a, oe) cls d hrH hot hz hpin I1.env0 b r q) fun r s' hq => ?_)
  cases r with
  | error u => exact hq.elim
  | ok fl =>
    cases fl with
    | ret u => exact I1.after hq
    | next => exact False.elim hq
    | brk => exact False.elim hq
    | cont => exact False.elim hq
end
/-! ### what is asked of the handled error -/
section
variable {X : Cx} {p : Addr × Obj} {C d : Addr}
theorem pin_obj {pins : List (Addr × Obj)} {σ : L2.St} {H : Hp} {s : Shared} {v : V} (I : Inv X pins σ H s) (hp : p ∈ X.pn) (hz : L2N.Zn (.ref C) (some d) p.2) (hf : ∃ vs, p.2.data = .fields vs) (e : H d = some (exd d [(("value" : Str), v)])) :
    ∃ od u, PySem.W.InstAt s.heap p.1 p.2 C (some od) ∧ PySem.W.lookIn "value" od = some (some u) ∧ RelV v u := by
  obtain ⟨vs, hd⟩ := hf
  have ho := (I.pin p (List.mem_append_left _ hp)).1
  obtain ⟨mA, hns, hr⟩ := exd_at I.hok e
  obtain ⟨od, hod, hl⟩ := lookIn_ns hns
  have l : List.lookup ("value" : Str) [(("value" : Str), v)] = some v := by simp [List.lookup]
  obtain ⟨u, hu, ru⟩ := RelO.some_of (v := v) (o := mA "value") (by rw [← l]; exact hr "value")
  exact ⟨od, u, ⟨ho, hz.1, by unfold PySem.W.notCls; rw [hd] <;> rfl, by rw [hz.2.1]; exact hod⟩, by rw [hl, hu], ru⟩
def rIsiP (K : PySem.W.Frag) (a C d : Addr) : List V → Hp → VK → Prop := fun xs H Q => ∃ (v c : V) (u : Value) (b : Bool), xs = [.ref a, c] ∧ ClsV c u ∧ H d = some (exd d [(("value" : Str), v)]) ∧ ExcC K C ∧ PySem.W.kitOne K (.ref C) u = some b ∧ Q (.bl b) H
theorem call_isiP (hp : p ∈ X.pn) (hz : L2N.Zn (.ref C) (some d) p.2) (hf : ∃ vs, p.2.data = .fields vs) : CallR X (.builtin "isinstance") (rIsiP X.K p.1 C d) := by
  intro pins s σ H xs us Q I r h
  obtain ⟨v, c, u, b, rfl, k, at_, T, e, q⟩ := h
  obtain ⟨u1, u2, rfl, r1, r2⟩ := vals2 r
  obtain rfl := k.eq r2
  obtain rfl : u1 = Value.ref p.1 := r1
  obtain ⟨od, uv, J, _, _⟩ := pin_obj I hp hz hf at_
  exact PySem.W.kia_one (SqX.kit (ox := p.2) (od := some od) T) I.kIn J e (fun z => nomatch z) fun tk => ⟨.bl b, H, I.tok tk, rfl, q⟩
def tPv (K : PySem.W.Frag) (a C d : Addr) (te : TE) : TE := fun σ H Q => te σ H fun x H1 => ∃ (v : V), x = .ref a ∧ H1 d = some (exd d [(("value" : Str), v)]) ∧ XfC K C ∧ PySem.W.findIn K (.ref C) "value" = some none ∧ Q v H1
theorem pe_pv {e : Expr} {te : TE} {pos : Pos} (hp : p ∈ X.pn) (hz : L2N.Zn (.ref C) (some d) p.2) (hf : ∃ vs, p.2.data = .fields vs) (he : PE X e te) (hb : attributeBase e "value" X.env (eval e X.env) = eval e X.env := by rfl) : PE X (.Attribute e "value" pos) (tPv X.K p.1 C d te) := by
  refine ⟨fun pins s σ H Q I h => ?_⟩
  refine attr_of hb (thn (he.run pins s σ H _ I h) fun u s1 hh => ?_)
  obtain ⟨x, H1, I1, rx, v, ex, at_, T, hno, q⟩ := hh
  subst ex
  obtain rfl : u = Value.ref p.1 := rx
  obtain ⟨od, uv, J, l, ru⟩ := pin_obj I1 hp hz hf at_
  exact HandSPX.exc_get I1.kIn J T.ga T.gg T.exC (PySem.W.findObj_own T.hdC hno rfl l) (handed_of ru) ⟨v, H1, I1.tok _, ru, q⟩
end
end Sq

set_option Elab.async false
set_option linter.all false
set_option maxRecDepth 100000
set_option maxHeartbeats 4000000
/-! Calls that may raise, where the error's context is known to be None. -/
namespace Sq
open PySem PySem.Spec PyProof.Rows L2
theorem okN {P : Program} {w : World} {K : PySem.W.Frag} {mg : Str → Option Value} {base : Heap} {x qual : Str} {st : Stmt} {f : Addr} {fd : FuncData} {N ps : List Str} {k : Nat} {sp : Sp} (F : Fun K x qual st f fd) (S : FnScope N ps (defScope st)) (len : ∀ vs H Q E, sp vs H Q E → vs.length = ps.length)
    (walk : ∀ (cdv : Value) (A : Around) (outer : List Env) (s : Shared) (H : Hp) (vs : List V) (Q : VK) (E : XK), Room k (A.deeper (envOfC qual (defScope st) s.heap.objs.size f cdv)) → sp vs H Q E →
      ∃ t, PSs (cxOf (L2N.CX P w) P w K mg base N qual (defScope st) f cdv A outer s H E) (defBody st) t ∧ t { nx := fun _ H' => Q .non H', rt := Q } (L2.start N vs) H) : FnOk P w K mg base (L2N.CX P w) (k + 1) f fd ps sp := by
  obtain ⟨oc, od, kV, doc, pm, an, cdv, ct, osl, rfl, lk, hcd⟩ := F.ex
  exact fn_of lk hcd S len fun A outer s H vs Q E hr h => walk cdv A outer s H vs Q E hr h
/-- a def with defaults that may raise -/
theorem okDN {P : Program} {w : World} {K : PySem.W.Frag} {mg : Str → Option Value} {base : Heap} {x qual : Str} {prm : Arguments} {bd : List Stmt} {scp : Scope} {dvs : List V} {kws : List (Str × V)} {f : Addr} {fd : FuncData} {names ps : List Str} {k : Nat} {sp : Sp}
    (F : FunD K x qual prm bd scp dvs kws f fd) (sc : FnScope names ps scp) (count : ∀ vs H Q E, sp vs H Q E → vs.length = ps.length)
    (inner : ∀ (cdv : Value) (A : Around) (outer : List Env) (s : Shared) (H : Hp) (vs : List V) (Q : VK) (E : XK), Room k (A.deeper (envOfC qual scp s.heap.objs.size f cdv)) → sp vs H Q E →
      ∃ t, PSs (cxOf (L2N.CX P w) P w K mg base names qual scp f cdv A outer s H E) bd t ∧ t { nx := fun _ H' => Q .non H', rt := Q } (start names vs) H) : FnOk P w K mg base (L2N.CX P w) (k + 1) f fd ps sp :=
  F.ok sc count fun cdv A outer s H vs Q E hr h => inner cdv A outer s H vs Q E hr h
structure Dn (P : Program) (w : World) (K : PySem.W.Frag) (mg : Str → Option Value) (base : Heap) (k : Nat) (x : Str) (ps : List Str) (sp : Sp) : Prop where
  ex : ∃ f fd, FnOk P w K mg base (L2N.CX P w) k f fd ps sp ∧ mg x = some (.ref f) ∧ PySem.W.keepIn K (.ref f) = true ∧ Binds K fd ps []
theorem Dn.mk' {P : Program} {w : World} {K : PySem.W.Frag} {mg : Str → Option Value} {base : Heap} {k : Nat} {x : Str} {st : Stmt} {ps : List Str} {sp : Sp} {f : Addr} {fd : FuncData} (F : Fun K x x st f fd) (G : FnOk P w K mg base (L2N.CX P w) k f fd ps sp) (g : mg x = some (.ref f)) (b : Binds K fd ps []) : Dn P w K mg base k x ps sp :=
  ⟨⟨f, fd, G, g, F.kp, b⟩⟩
theorem Dz.mk' {P : Program} {w : World} {K : PySem.W.Frag} {mg : Str → Option Value} {base : Heap} {k : Nat} {x : Str} {st : Stmt} {ps : List Str} {sp : SpZ} {f : Addr} {fd : FuncData} (F : Fun K x x st f fd) (G : FnHZ P w K mg base CX0 k f fd ps sp) (g : mg x = some (.ref f)) (b : Binds K fd ps []) : Dz P w K mg base k x ps sp :=
  ⟨⟨f, fd, G, g, F.kp, b⟩⟩
section
variable {P : Program} {w : World} {K : PySem.W.Frag} {mg : Str → Option Value} {base : Heap} {N : List Str} {qual : Str} {scope : Scope} {f : Addr} {cd : Value} {A : Around} {outer : List Env} {s : Shared} {H : Hp} {E : XK}
theorem takesN : L2N.Takes (cxOf (L2N.CX P w) P w K mg base N qual scope f cd A outer s H E) (fun cls d _ H' => E cls d H') := L2N.takes_of rfl rfl rfl rfl
theorem ownsN : PassesOwn (model P w) (cxOf (L2N.CX P w) P w K mg base N qual scope f cd A outer s H E).A (cxOf (L2N.CX P w) P w K mg base N qual scope f cd A outer s H E).env (cxOf (L2N.CX P w) P w K mg base N qual scope f cd A outer s H E).xe := passes_of rfl
end
theorem takesN0 {X : Cx} : L2N.Takes X (fun _ _ _ _ => False) := fun _ _ x => by
  obtain ⟨_, _, _, _, _, _, _, _, _, _, _, _, _, _, _, _, z⟩ := x
  exact z.elim
section
variable {X : Cx} {k : Nat} {ps ks : List Str} {sp : Sp} {x : Str} {p pos : Pos} {e : Expr} {es : List Expr} {t tk : TA} {W : WX}
theorem pe_callN (D : Dn X.prog X.w X.K X.mg X.base k x ps sp) (takes : L2N.Takes X W) (hr : Room k X.A) (hg : Gl X x) (ha : PA X (e :: es) t) (hdb : (x == ("__debug__" : Str)) = false := by decide)
    (he : starEach (e :: es) X.env = (false, eval e X.env) :: starEach es X.env := by rfl) (hpl : (backTo pos (starEach es X.env)).any (·.1) = false := by rfl) :
    PE X (.Call (.Name x p) (e :: es) [] pos) (tCallS sp (WE W) t) := by
  obtain ⟨f, fd, F, g, kp, b⟩ := D.ex
  exact pe_callS F hr hg g kp b (L2N.passAt takes) ha hdb he hpl
/-- raise X(e): what is made, its context None -/
theorem pmk_erN {C fI : Addr} {q : Str} {te : TE} (T : SqX.Er X.K X.prog C fI q) (gC : X.mg x = some (.ref C)) (hr : Room k X.A) (hg : Gl X x) (he : PE X e te)
    (hs : starEach [e] X.env = (false, eval e X.env) :: starEach [] X.env := by rfl) (hdb : (x == ("__debug__" : Str)) = false := by decide) :
    L2N.PMk X (.Call (.Name x p) [e] [] pos) (fun σ H Q => te σ H fun v H1 => ∀ d, H1 d = none → Q (.ref C) (some d) (upd H1 d (exd d [(("value" : Str), v)]))) := by
  intro pins s σ H Q I h
  refine wpAny_Call_Name_kw (ld_glob I hg gC ?_ hdb)
  refine PySem.W.callWith_K (h₀ := X.base) I.ok.mod.kin T.kC ?_ hs (by rfl)
  rw [hs]
  show wpAny _ _ (spliced ((false, eval e X.env) :: backTo pos (starEach [] X.env))) _ _ s
  refine Calls.spliced_cons (thn (he.run pins s σ H _ I h) fun u s1 hh => ?_)
  obtain ⟨v, H1, I1, r1, q1⟩ := hh
  refine Calls.spliced_nil ⟨I1.kIn, ?_⟩
  show wpAny _ _ (call (.ref C) [u]) _ _ _
  obtain ⟨mb, hb, boot⟩ := I1.ok.mod.blt
  refine wpAny_call (SqX.made T I1.kIn (I1.ok.mod.glob.keeps I1.bk) I1.nolimit (hb.keeps I1.bk) boot (by have := hr.dp; omega) fun h' tk a d t1 M => ?_)
  have na : H1 a = none := I1.hok.fresh M.big
  have nd : H1 d = none := I1.hok.fresh M.dbig
  obtain ⟨G, g1, g2⟩ := restrict h' fun b => decide (b ≠ a)
  have gk : ∀ b, b ≠ a → G.get? b = h'.get? b := fun b hb => g1 b (decide_eq_true hb)
  have ga : G.get? a = none := g2 a (by simp)
  have old : ∀ b o, s1.heap.get? b = some o → G.get? b = some o := fun b o z => (gk b (Nat.ne_of_lt (Nat.lt_of_lt_of_le (Heap.lt_size z) M.big))).trans (M.keep b o z)
  have nsG : G.Ns1 d (fun y => if y = "value" then some u else none) := M.ns.at fun o z => (gk d M.dne).trans z
  have rel : ∀ f, RelO (List.lookup f [(("value" : Str), v)]) (if f = "value" then some u else none) := relO_put (fs := []) (mA := fun _ => none) r1 fun g => True.intro
  have J : Inv X pins σ (upd H1 d (exd d [(("value" : Str), v)])) { s1 with heap := G, toks := tk } := I1.laid (t' := tk) old M.dbig (exd_ok nsG rel)
  refine ⟨a, _, _, { s1 with heap := G, toks := tk }, _, .ref C, some d, rfl, J, fun b o z => ?_, ga, M.obj, ⟨rfl, rfl, fun vs e => by cases e; rfl⟩, rfl, rfl, by rw [upd_ne (Ne.symm M.dne)]; exact na, rfl, I1.bare, raises_own T.exC T.tyC, q1 d nd⟩
  by_cases hb : b = a
  · rw [hb, ga] at z
    cases z
  · rw [← gk b hb]
    exact z
end
end Sq

set_option Elab.async false
set_option linter.all false
set_option maxRecDepth 100000
set_option maxHeartbeats 2000000
/-! Data read off the layer's heap. -/
namespace Sq
open PySem PySem.Spec PyProof.Rows L2
theorem same_new {H : Hp} {p : Addr} {o : HO} (h : H p = none) : Same H (upd H p o) := fun b x e => by
  rw [upd_ne (ne_of_none e h)]
  exact e
theorem map_at {ks : List Int} {i : Nat} {x : V} (h : (ks.map V.int)[i]? = some x) : ∃ k, ks[i]? = some k ∧ V.int k = x := by
  rw [List.getElem?_map] at h
  exact Option.map_eq_some_iff.mp h
section
variable {K : PySem.W.Frag}
theorem dp_ints {H : Hp} : ∀ (ds : List Int), DpAll K H (ds.map V.int) (ds.map PyData.int)
  | [] => .nil
  | d :: ds => .cons (.int d) (dp_ints ds)
theorem lays_ints : ∀ (ds : List Int), PyData.canLayAll0 (ds.map PyData.int) = true
  | [] => rfl
  | d :: ds => by
    show (PyData.canLay0 (.int d) && PyData.canLayAll0 (ds.map PyData.int)) = true
    rw [lays_ints ds]
    rfl
theorem deep_ints : ∀ (ds : List Int), PyData.depthAll (ds.map PyData.int) ≤ 1
  | [] => Nat.zero_le _
  | _ :: ds => Nat.max_le.mpr ⟨Nat.zero_le _, deep_ints ds⟩
theorem shaped_ints (ds : List Int) : SeqAt.shaped (.list (ds.map PyData.int)) = true :=
  Bool.and_eq_true_iff.mpr ⟨lays_ints ds, decide_eq_true (Nat.le_trans (Nat.add_le_add_right (deep_ints ds) 1) (by decide))⟩
end
/-! ### data of ints and short lists -/
mutual
def il : PyData → Bool
  | .int _ => true
  | .list xs => decide (xs.length ≤ 1000) && ilAll xs
  | _ => false
def ilAll : List PyData → Bool
  | [] => true
  | x :: xs => il x && ilAll xs
end
theorem il_at : ∀ {ds : List PyData} {i : Nat} {d : PyData}, ilAll ds = true → ds[i]? = some d → il d = true
  | x :: xs, 0, d, h, e => by
    cases e
    exact (Bool.and_eq_true_iff.mp h).1
  | x :: xs, i + 1, d, h, e => il_at (Bool.and_eq_true_iff.mp h).2 e
theorem depth_at : ∀ {ds : List PyData} {i : Nat} {d : PyData}, ds[i]? = some d → d.depth ≤ PyData.depthAll ds
  | x :: xs, 0, d, e => by
    cases e
    exact Nat.le_max_left _ _
  | x :: xs, i + 1, d, e => Nat.le_trans (depth_at (ds := xs) e) (Nat.le_max_right _ _)
theorem dp_at {K : PySem.W.Frag} {H : Hp} : ∀ {xs : List V} {ds : List PyData} {i : Nat} {d : PyData}, DpAll K H xs ds → ds[i]? = some d → ∃ x, xs[i]? = some x ∧ Dp K H x d
  | _, _, 0, d, .cons h _, e => by
    cases e
    exact ⟨_, rfl, h⟩
  | _, _, i + 1, d, .cons _ t, e => dp_at (i := i) t e
theorem dp_len {K : PySem.W.Frag} {H : Hp} : ∀ {xs : List V} {ds : List PyData}, DpAll K H xs ds → xs.length = ds.length
  | _, _, .nil => rfl
  | _, _, .cons _ t => congrArg Nat.succ (dp_len t)
mutual
theorem Dp.same {K : PySem.W.Frag} {H H' : Hp} (s : Same H H') : ∀ {d : PyData} {x : V}, Dp K H x d → Dp K H' x d
  | .none, _, .non => .non
  | .bool b, _, .bl _ => .bl b
  | .int i, _, .int _ => .int i
  | .str x, _, .str _ => .str x
  | .list ds, _, .lst h a => .lst (s.seq h) (DpAll.same s a)
  | .tuple ds, _, .tup h a => .tup (by
      rcases h with (h | ⟨o, h⟩) | h
      · exact .inl (.inl (s _ _ h))
      · exact .inl (.inr ⟨o, s _ _ h⟩)
      · exact .inr h) (DpAll.same s a)
theorem DpAll.same {K : PySem.W.Frag} {H H' : Hp} (s : Same H H') : ∀ {ds : List PyData} {xs : List V}, DpAll K H xs ds → DpAll K H' xs ds
  | [], _, .nil => .nil
  | _ :: _, _, .cons h t => .cons (Dp.same s h) (DpAll.same s t)
end
theorem eqv_take : ∀ {ds es : List PyData} {i : Nat} {d e : PyData}, ds[i]? = some d → es[i]? = some e → PyData.eqvAll (ds.take (i + 1)) (es.take (i + 1)) = (PyData.eqvAll (ds.take i) (es.take i) && PyData.eqv d e)
  | x :: xs, y :: ys, 0, d, e, h1, h2 => by
    cases h1
    cases h2
    show (PyData.eqv x y && true) = (true && PyData.eqv x y)
    cases PyData.eqv x y <;> rfl
  | x :: xs, y :: ys, i + 1, d, e, h1, h2 => by
    show (PyData.eqv x y && PyData.eqvAll (xs.take (i + 1)) (ys.take (i + 1))) = ((PyData.eqv x y && PyData.eqvAll (xs.take i) (ys.take i)) && PyData.eqv d e)
    rw [eqv_take (ds := xs) (es := ys) (i := i) h1 h2, Bool.and_assoc]
theorem eqv_lens : ∀ {ds es : List PyData}, ds.length ≠ es.length → PyData.eqvAll ds es = false
  | [], [], h => absurd rfl h
  | [], _ :: _, _ => rfl
  | _ :: _, [], _ => rfl
  | x :: xs, y :: ys, h => by
    show (PyData.eqv x y && PyData.eqvAll xs ys) = false
    rw [eqv_lens (ds := xs) (es := ys) (fun z => h (congrArg Nat.succ z)), Bool.and_false]
theorem isi_of {K : PySem.W.Frag} {H : Hp} {x : V} {t n : String} {b : Bool} {Q : VK} (ty : TyX K H x (.type t)) (h : kitB t n = some b) (q : Q (.bl b) H) : rIsi K [x, .ty n] H Q :=
  ⟨x, .ty n, .type t, .type n, b, rfl, .ty n, ty, kit_ty h, q⟩
theorem ty_seq {K : PySem.W.Frag} {H : Hp} {a : Addr} {xs : List V} (h : SqL K H a xs) : TyX K H (.ref a) (.type "list") := by
  rcases h with (h | ⟨o, h⟩) | ⟨o, vs, m, h, hc, _⟩
  · exact .base (.lst h)
  · exact .base (.frz h)
  · exact .kList h hc
/-! ### the text of a list of ints -/
theorem heavy_ints : ∀ (ks : List Int), (∀ k ∈ ks, k.natAbs < 10 ^ 12) → PyData.weightAll (ks.map PyData.int) ≤ 64 * ks.length
  | [], _ => Nat.le_refl _
  | k :: ks, h => by
    have ih := heavy_ints ks fun x hx => h x (List.mem_cons_of_mem _ hx)
    have hk := h k (List.mem_cons_self ..)
    have w1 : PyData.weight (.int k) ≤ 41 := by
      show (if k == 0 then 0 else k.natAbs.log2 + 1) ≤ 41
      split
      · omega
      · have : k.natAbs.log2 < 40 := PySem.Flt.log2_lt_of (by decide) (Nat.lt_of_lt_of_le hk (by decide))
        omega
    show PyData.weight (.int k) + 1 + PyData.weightAll (ks.map PyData.int) ≤ 64 * (ks.length + 1)
    omega
theorem shows_ints : ∀ (ks : List Int), (∀ k ∈ ks, k.natAbs < 10 ^ 12) → PyData.showableAll (ks.map PyData.int) = true
  | [], _ => rfl
  | k :: ks, h => by
    have ih := shows_ints ks fun x hx => h x (List.mem_cons_of_mem _ hx)
    have hk := h k (List.mem_cons_self ..)
    have : k.natAbs.log2 < 40 := PySem.Flt.log2_lt_of (by decide) (Nat.lt_of_lt_of_le hk (by decide))
    show (decide (k.natAbs.log2 < 1920) && PyData.showableAll (ks.map PyData.int)) = true
    rw [ih, decide_eq_true (by omega)]
    rfl
theorem nodict_ints : ∀ (ks : List Int), PyData.hasDictAll (ks.map PyData.int) = false
  | [] => rfl
  | _ :: ks => nodict_ints ks
theorem short_ints {ks : List Int} (h : ∀ k ∈ ks, k.natAbs < 10 ^ 12) (hl : ks.length ≤ 1000) : (PyData.list (ks.map PyData.int)).shown.length ≤ sizeLine := by
  have w1 : PyData.weight (.list (ks.map PyData.int)) ≤ 64 * ks.length := heavy_ints ks h
  have lv := PyData.leavesShort_of_canLay0 13 (.list (ks.map PyData.int)) (lays_ints ks) (PyData.intsShortAll_ints ks h)
  refine PyData.shown_fits (B := 13) (by decide) (by decide) lv (Nat.le_trans w1 ?_)
  have e : (2 : Nat) ^ 20 = 1048576 := by decide
  omega
theorem dep40 (ks : List Int) : (PyData.list (ks.map PyData.int)).depth ≤ 40 := Nat.le_trans (Nat.add_le_add_right (deep_ints ks) 1) (by decide)
theorem shaped_il {d : PyData} (h : d.canLay0 = true) (h2 : d.depth ≤ 64) : SeqAt.shaped d = true := Bool.and_eq_true_iff.mpr ⟨h, decide_eq_true h2⟩
mutual
theorem il_lay : ∀ {d : PyData}, il d = true → d.canLay0 = true
  | .int _, _ => rfl
  | .list xs, h => ilAll_lay (Bool.and_eq_true_iff.mp h).2
  | .none, h => nomatch h
  | .bool _, h => nomatch h
  | .str _, h => nomatch h
  | .tuple _, h => nomatch h
  | .dict _, h => nomatch h
theorem ilAll_lay : ∀ {ds : List PyData}, ilAll ds = true → PyData.canLayAll0 ds = true
  | [], _ => rfl
  | _ :: _, h => Bool.and_eq_true_iff.mpr ⟨il_lay (Bool.and_eq_true_iff.mp h).1, ilAll_lay (Bool.and_eq_true_iff.mp h).2⟩
end
theorem KE_same {a b : List Int} (hp : a.Perm b) (ha : a.Pairwise (· ≤ ·)) (hb : b.Pairwise (· ≤ ·)) : a = b := hp.eq_of_pairwise (fun x y _ _ h1 h2 => Int.le_antisymm h1 h2) ha hb
theorem il_ints : ∀ (ks : List Int), ilAll (ks.map PyData.int) = true
  | [] => rfl
  | _ :: ks => il_ints ks
theorem eqv_refl' {d : PyData} (h : il d = true) : PyData.eqv d d = true := PySem.SeqAt.eqv_refl d (il_lay h)
end Sq
namespace Sq
open PySem PySem.Spec PyProof.Rows L2
/-! ### repr of any value whose data is known -/
structure Shown (K : PySem.W.Frag) (H : Hp) (x : V) (d : PyData) : Prop where
  dp : Dp K H x d
  sh : d.showable = true
  nd : d.hasDict = false
  dep : d.depth ≤ 40
  fit : d.shown.length ≤ sizeLine
theorem Shown.same {K : PySem.W.Frag} {H H' : Hp} {x : V} {d : PyData} (S : Shown K H x d) (s : Same H H') : Shown K H' x d := ⟨Dp.same s S.dp, S.sh, S.nd, S.dep, S.fit⟩
def rReprV (K : PySem.W.Frag) : List V → Hp → VK → Prop := fun xs H Q => ∃ x d, xs = [x] ∧ Shown K H x d ∧ Q (.str d.shown) H
theorem call_reprV {X : Cx} (hg : X.A.guards = some []) (hu : X.A.units + 64 < cLine) : CallR X (.builtin "repr") (rReprV X.K) := by
  intro pins s σ H xs us Q I r h
  obtain ⟨x, d, rfl, S, q⟩ := h
  obtain ⟨u, rfl, rv⟩ := vals1 r
  obtain ⟨dp, sh, nd, dep, fit⟩ := S
  cases dp with
  | non =>
    obtain rfl : u = Value.none := rv
    exact PySem.P.repr_of_none ⟨.str _, H, I.tok _, ⟨_, rfl⟩, q⟩
  | bl b =>
    obtain rfl : u = Value.bool b := rv
    exact PySem.P.repr_of_bool ⟨.str _, H, I.tok _, ⟨_, rfl⟩, q⟩
  | int i =>
    obtain ⟨t, rfl⟩ := rv
    exact PySem.P.repr_of_int (of_decide_eq_true sh) ⟨.str _, H, I.tok _, ⟨_, rfl⟩, q⟩
  | str y =>
    obtain ⟨t, rfl⟩ := rv
    exact PySem.P.repr_of_str ⟨.str _, H, I.tok _, ⟨_, rfl⟩, q⟩ fit
  | lst hs ha => exact call_reprD hg hu pins s σ H _ _ Q I r ⟨_, _, rfl, .lst hs ha, sh, nd, dep, fit, q⟩
  | tup hs ha => exact call_reprD hg hu pins s σ H _ _ Q I r ⟨_, _, rfl, .tup hs ha, sh, nd, dep, fit, q⟩
theorem fits40 {d : PyData} (h : d.leavesShort 40 = true) (hw : d.weight ≤ 100000) : d.shown.length ≤ sizeLine := by
  have e := PyData.shown_le 40 (by decide) d h
  rw [sizeLine_eq]
  omega
/-! ### powers of greater numbers -/
def CPowW (i j : Int) : Prop := 0 ≤ j ∧ (Builtin.Int.intBits i : Int) * j ≤ 2 ^ 27
theorem op_powW {X : Cx} : OpR X (binaryOp .Pow) (rI CPowW fun i j => .int (i ^ j.toNat)) := opI fun _ _ _ _ _ _ _ hc q => pow_int hc.1 hc.2 q
theorem powW_of {i j : Int} {m : Nat} (h0 : 0 ≤ j) (hi : i.natAbs < 2 ^ m) (hm : 0 < m) (hj : (m : Int) * j ≤ 2 ^ 27) : CPowW i j := by
  refine ⟨h0, Int.le_trans (Int.mul_le_mul_of_nonneg_right ?_ h0) hj⟩
  unfold Builtin.Int.intBits
  split
  · omega
  · have := PySem.Flt.log2_lt_of hm hi
    omega
end Sq
namespace Sq
open PySem PySem.Spec PyProof.Rows L2
def rMulS : R2 := fun x y H Q => ∃ a n, x = .str a ∧ y = .int n ∧ _root_.PySem.MulOk a n ∧ Q (.str (_root_.PySem.Txt.mul a n)) H
theorem op_mulS {X : Cx} : OpR X (binaryOp .Mult) rMulS := by
  intro pins s σ H x y v u Q I rx ry h
  obtain ⟨a, n, rfl, rfl, hok, q⟩ := h
  obtain ⟨t, rfl⟩ := rx
  obtain ⟨t', rfl⟩ := ry
  exact SB.mul hok fun t2 k => ⟨.str _, H, I.tok k, ⟨_, rfl⟩, q⟩
end Sq

set_option Elab.async false
set_option linter.all false
/-! Squeezing and reaches in plain Lean. -/
namespace Sq
def once (n k : Int) : Int := n / k + n % k
def sq (n : Int) (ks : List Int) : Int := ks.foldl once n
def rw1 (k R : Int) : Int := if k > R + 1 then R else (R + 3 - k) * k - 2
def rch (ks : List Int) (v : Int) : Int := ks.foldr rw1 v

theorem rw1_pos {k R : Int} (hk : 2 ≤ k) (hR : 1 ≤ R) : 1 ≤ rw1 k R := by
  unfold rw1
  split
  · exact hR
  · have h : 2 * 2 ≤ (R + 3 - k) * k := Int.mul_le_mul (by omega) hk (by omega) (by omega)
    omega

theorem once_small {k n : Int} (h0 : 0 ≤ n) (h : n < k) : once n k = n := by
  unfold once
  rw [Int.ediv_eq_zero_of_lt h0 h, Int.emod_eq_of_lt h0 h]
  omega

theorem once_nonneg {k n : Int} (hk : 2 ≤ k) (h0 : 0 ≤ n) : 0 ≤ once n k := by
  unfold once
  have h1 := Int.ediv_nonneg h0 (by omega : 0 ≤ k)
  have h2 := Int.emod_nonneg n (by omega : k ≠ 0)
  omega

theorem once_le {k R n : Int} (hk : 2 ≤ k) (hR : 1 ≤ R) (h0 : 0 ≤ n) (h : n ≤ rw1 k R) : once n k ≤ R := by
  unfold rw1 at h
  split at h
  · rename_i hg
    rw [once_small h0 (by omega)]
    exact h
  · rename_i hg
    unfold once
    have e := Int.mul_ediv_add_emod n k
    have r0 := Int.emod_nonneg n (by omega : k ≠ 0)
    have r1 := Int.emod_lt_of_pos n (by omega : 0 < k)
    generalize n / k = q at *
    generalize n % k = r at *
    by_cases c : q + r ≤ R
    · exact c
    · exfalso
      by_cases c2 : R + 3 - k ≤ q
      · have := Int.mul_le_mul_of_nonneg_left c2 (by omega : 0 ≤ k)
        rw [Int.mul_comm k (R + 3 - k)] at this
        omega
      · have c3 : q = R + 2 - k := by omega
        have c4 : r = k - 1 := by omega
        have e2 : k * (R + 2 - k) = (R + 3 - k) * k - k := by
          rw [show R + 2 - k = (R + 3 - k) - 1 by omega, Int.mul_sub, Int.mul_one, Int.mul_comm]
        rw [c3, e2] at e
        omega

theorem once_next {k R : Int} (hk : 2 ≤ k) (hR : 1 ≤ R) : once (rw1 k R + 1) k = R + 1 := by
  unfold rw1
  split
  · exact once_small (by omega) (by omega)
  · have e : (R + 3 - k) * k - 2 + 1 = (k - 1) + k * (R + 2 - k) := by
      rw [show R + 2 - k = (R + 3 - k) - 1 by omega, Int.mul_sub, Int.mul_one, Int.mul_comm k]
      omega
    unfold once
    rw [e, Int.add_mul_ediv_left _ _ (by omega : k ≠ 0), Int.add_mul_emod_self_left, Int.ediv_eq_zero_of_lt (by omega) (by omega), Int.emod_eq_of_lt (by omega) (by omega)]
    omega

theorem rch_pos : ∀ (ks : List Int) (v : Int), (∀ k ∈ ks, 2 ≤ k) → 1 ≤ v → 1 ≤ rch ks v
  | [], v, _, hv => hv
  | k :: ks, v, h, hv => rw1_pos (h k (List.mem_cons_self ..)) (rch_pos ks v (fun x hx => h x (List.mem_cons_of_mem _ hx)) hv)

theorem sq_le : ∀ (ks : List Int) (v n : Int), (∀ k ∈ ks, 2 ≤ k) → 1 ≤ v → 0 ≤ n → n ≤ rch ks v → sq n ks ≤ v
  | [], v, n, _, _, _, hn => hn
  | k :: ks, v, n, h, hv, h0, hn =>
    have hk := h k (List.mem_cons_self ..)
    have ht : ∀ x ∈ ks, 2 ≤ x := fun x hx => h x (List.mem_cons_of_mem _ hx)
    sq_le ks v (once n k) ht hv (once_nonneg hk h0) (once_le hk (rch_pos ks v ht hv) h0 hn)

theorem sq_next : ∀ (ks : List Int) (v : Int), (∀ k ∈ ks, 2 ≤ k) → 1 ≤ v → sq (rch ks v + 1) ks = v + 1
  | [], v, _, _ => rfl
  | k :: ks, v, h, hv => by
    have hk := h k (List.mem_cons_self ..)
    have ht : ∀ x ∈ ks, 2 ≤ x := fun x hx => h x (List.mem_cons_of_mem _ hx)
    show sq (once (rw1 k (rch ks v) + 1) k) ks = v + 1
    rw [once_next hk (rch_pos ks v ht hv)]
    exact sq_next ks v ht hv

theorem rch_mono {ks : List Int} {v u : Int} (h : ∀ k ∈ ks, 2 ≤ k) (hv : 1 ≤ v) (hu : v ≤ u) : rch ks v ≤ rch ks u := by
  by_cases c : rch ks v ≤ rch ks u
  · exact c
  · exfalso
    have p := rch_pos ks u h (by omega)
    have a := sq_le ks v (rch ks u + 1) h hv (by omega) (by omega)
    rw [sq_next ks u h (by omega)] at a
    omega

/-- the least run with more characters is found by trying -/
theorem sq_gt {ks : List Int} {v n : Int} (h : ∀ k ∈ ks, 2 ≤ k) (hv : 1 ≤ v) (h0 : 0 ≤ n) (h1 : n ≤ rch ks v + 1) (c : v < sq n ks) : n = rch ks v + 1 := by
  by_cases d : n ≤ rch ks v
  · have := sq_le ks v n h hv h0 d
    omega
  · omega
theorem sq_lt {ks : List Int} {v n : Int} (h : ∀ k ∈ ks, 2 ≤ k) (hv : 1 ≤ v) (h1 : n ≤ rch ks v + 1) (c : sq n ks ≤ v) : n ≤ rch ks v := by
  by_cases d : n ≤ rch ks v
  · exact d
  · have e : n = rch ks v + 1 := by omega
    rw [e, sq_next ks v h hv] at c
    omega
theorem sq_concat (n : Int) (ks : List Int) (k : Int) : sq n (ks ++ [k]) = once (sq n ks) k := by
  unfold sq
  rw [List.foldl_append]
  rfl
end Sq

set_option Elab.async false
set_option linter.all false
set_option maxRecDepth 100000
set_option maxHeartbeats 2000000
/-! What the laws share: the built-in names, the error classes, low numbers, data that can be shown, keeping heaps. -/
namespace Sq
open PySem PySem.Spec PyProof.Rows L2
structure Bi (mg : Str → Option Value) : Prop where
  n_len : mg "len" = none
  n_min : mg "min" = none
  n_max : mg "max" = none
  n_abs : mg "abs" = none
  n_range : mg "range" = none
  n_isinstance : mg "isinstance" = none
  n_repr : mg "repr" = none
  n_enumerate : mg "enumerate" = none
  n_reversed : mg "reversed" = none
  n_sorted : mg "sorted" = none
  n_bool : mg "bool" = none
  n_int : mg "int" = none
  n_str : mg "str" = none
  n_list : mg "list" = none
  n_tuple : mg "tuple" = none
  n_set : mg "set" = none
  n_sum : mg "sum" = none
  n_zip : mg "zip" = none
  n_all : mg "all" = none
  n_any : mg "any" = none
  n_ValueError : mg "ValueError" = none
  n_divmod : mg "divmod" = none
structure Errs (P : Program) (K : PySem.W.Frag) (mg : Str → Option Value) (c fI : Nat → Addr) (qn : Nat → Str) (cB : Addr) : Prop where
  er : ∀ n, n < 5 → True ∧ SqX.Er K P (c n) (fI n) (qn n)
  g0 : mg "InvalidList" = some (.ref (c 0))
  g1 : mg "InvalidNumber" = some (.ref (c 1))
  g2 : mg "InvalidCharacter" = some (.ref (c 2))
  g3 : mg "NothingToUndo" = some (.ref (c 3))
  g4 : mg "Unreadable" = some (.ref (c 4))
  g5 : mg "SqueezeError" = some (.ref cB)
  is : ∀ n m, n < 5 → m < 5 → PySem.W.kitOne K (.ref (c n)) (.ref (c m)) = some (decide (n = m))
  isB : ∀ n, n < 5 → PySem.W.kitOne K (.ref (c n)) (.ref cB) = some true
  isV : ∀ n, n < 5 → PySem.W.kitOne K (.ref (c n)) (.type "ValueError") = some true
  ex : ∀ n, n < 5 → ExcC K (c n)
  xf : ∀ n, n < 5 → XfC K (c n)
/-- what else is known of the error classes -/
structure Errs2 (K : PySem.W.Frag) (c : Nat → Addr) (cB : Addr) : Prop where
  ma : ∀ n, n < 5 → PySem.W.exmOne K (.ref (c n)) (.ref cB) = some true
  st : ∀ n, n < 5 → PySem.W.subIn K (.ref (c n)) (.type "StopIteration") = some false
  nv : ∀ n, n < 5 → PySem.W.findIn K (.ref (c n)) "value" = some none
def nmE (n : Nat) : Str := ["InvalidList", "InvalidNumber", "InvalidCharacter", "NothingToUndo", "Unreadable"].getD n "InvalidList"
/-- the first number less than 2 -/
def lowAt : List Int → Option Nat
  | [] => none
  | k :: ks => if k < 2 then some 0 else (lowAt ks).map (· + 1)
theorem lowAt_none : ∀ {ks : List Int}, lowAt ks = none → ∀ k ∈ ks, 2 ≤ k
  | k :: ks, h, x, hx => by
    unfold lowAt at h
    by_cases c : k < 2
    · rw [if_pos c] at h
      cases h
    · rw [if_neg c] at h
      rcases List.mem_cons.mp hx with e | e
      · omega
      · cases q : lowAt ks with
        | none => exact lowAt_none q x e
        | some j => rw [q] at h; cases h
theorem lowAt_take : ∀ (ks : List Int) (i : Nat), (∀ k ∈ ks.take i, 2 ≤ k) → (∀ k, ks[i]? = some k → k < 2 → lowAt ks = some i) ∧ (ks.length ≤ i → lowAt ks = none)
  | [], i, _ => ⟨fun k e => by simp at e, fun _ => rfl⟩
  | k :: ks, 0, _ => ⟨fun x e c => by
      cases e
      show (if k < 2 then some 0 else (lowAt ks).map (· + 1)) = some 0
      rw [if_pos c], fun z => by simp at z⟩
  | k :: ks, i + 1, h => by
    have hk := h k (by simp)
    obtain ⟨a, b⟩ := lowAt_take ks i fun x hx => h x (by simp [hx])
    refine ⟨fun x e c => ?_, fun z => ?_⟩
    · show (if k < 2 then some 0 else (lowAt ks).map (· + 1)) = some (i + 1)
      rw [if_neg (by omega), a x e c]
      rfl
    · show (if k < 2 then some 0 else (lowAt ks).map (· + 1)) = none
      rw [if_neg (by omega), b (by simpa using z)]
      rfl
/-! ### data that can be shown -/
structure Gd (n : Nat) (d : PyData) : Prop where
  sh : d.showable = true
  nd : d.hasDict = false
  dep : d.depth ≤ 4
  lf : d.leavesShort 40 = true
  wt : d.weight ≤ n
structure GdA (n : Nat) (ds : List PyData) : Prop where
  sh : PyData.showableAll ds = true
  nd : PyData.hasDictAll ds = false
  dep : PyData.depthAll ds ≤ 3
  lf : PyData.leavesShortAll 40 ds = true
  wt : PyData.weightAll ds ≤ n
theorem gd_int {i : Int} (h : i.natAbs < 10 ^ 31) : Gd 121 (.int i) := by
  have lg : i.natAbs.log2 < 120 := PySem.Flt.log2_lt_of (by decide) (Nat.lt_of_lt_of_le h (by decide))
  refine ⟨decide_eq_true (Nat.lt_trans lg (by decide)), rfl, Nat.zero_le _, ?_, ?_⟩
  · have e := int_text_length_le10 (k := 31) (by decide) h
    refine decide_eq_true ?_
    show (Str.ofString (toString i)).length ≤ 40
    rw [PySem.ofString_length]
    omega
  · show (if i == 0 then 0 else i.natAbs.log2 + 1) ≤ 121
    split <;> omega
theorem GdA.nil : GdA 0 [] := ⟨rfl, rfl, Nat.zero_le _, rfl, Nat.le_refl _⟩
theorem GdA.cons {n m : Nat} {d : PyData} {ds : List PyData} (h : Gd n d) (dp : d.depth ≤ 3) (t : GdA m ds) : GdA (n + 1 + m) (d :: ds) := by
  refine ⟨?_, ?_, Nat.max_le.mpr ⟨dp, t.dep⟩, ?_, ?_⟩
  · show (d.showable && PyData.showableAll ds) = true
    rw [h.sh, t.sh]; rfl
  · show (d.hasDict || PyData.hasDictAll ds) = false
    rw [h.nd, t.nd]; rfl
  · show (d.leavesShort 40 && PyData.leavesShortAll 40 ds) = true
    rw [h.lf, t.lf]; rfl
  · have a := h.wt
    have b := t.wt
    show d.weight + 1 + PyData.weightAll ds ≤ n + 1 + m
    omega
theorem GdA.list {n : Nat} {ds : List PyData} (t : GdA n ds) : Gd n (.list ds) := ⟨t.sh, t.nd, Nat.add_le_add_right t.dep 1, t.lf, t.wt⟩
theorem Gd.le {n m : Nat} {d : PyData} (h : Gd n d) (l : n ≤ m) : Gd m d := ⟨h.sh, h.nd, h.dep, h.lf, Nat.le_trans h.wt l⟩
theorem gda_ints : ∀ (ks : List Int), (∀ k ∈ ks, k.natAbs < 10 ^ 31) → GdA (122 * ks.length) (ks.map PyData.int) ∧ PyData.depthAll (ks.map PyData.int) ≤ 0
  | [], _ => ⟨GdA.nil, Nat.le_refl _⟩
  | k :: ks, h => by
    obtain ⟨a, b⟩ := gda_ints ks fun x hx => h x (List.mem_cons_of_mem _ hx)
    refine ⟨?_, Nat.max_le.mpr ⟨Nat.zero_le _, b⟩⟩
    have c := GdA.cons (gd_int (h k (List.mem_cons_self ..))) (Nat.zero_le _) a
    rw [List.length_cons, Nat.mul_add, Nat.mul_one, Nat.add_comm (122 * ks.length)]
    exact c
theorem Gd.shown {n : Nat} {K : PySem.W.Frag} {H : Hp} {x : V} {d : PyData} (h : Gd n d) (l : n ≤ 100000) (dp : Dp K H x d) : Shown K H x d :=
  ⟨dp, h.sh, h.nd, Nat.le_trans h.dep (by decide), fits40 h.lf (Nat.le_trans h.wt l)⟩
/-! ### the low numbers -/
theorem lowAt_some : ∀ {ks : List Int} {j : Nat}, lowAt ks = some j → j < ks.length ∧ ks.getD j 2 < 2 ∧ ∀ m, m < j → 2 ≤ ks.getD m 2
  | k :: ks, j, h => by
    have h' : (if k < 2 then some 0 else (lowAt ks).map (· + 1)) = some j := h
    by_cases c : k < 2
    · rw [if_pos c] at h'
      cases h'
      exact ⟨Nat.succ_pos _, c, fun m hm => absurd hm (Nat.not_lt_zero _)⟩
    · rw [if_neg c] at h'
      cases q : lowAt ks with
      | none => rw [q] at h'; cases h'
      | some i =>
        rw [q] at h'
        cases h'
        obtain ⟨a, b, d⟩ := lowAt_some q
        refine ⟨Nat.succ_lt_succ a, b, fun m hm => ?_⟩
        cases m with
        | zero => show 2 ≤ k; omega
        | succ m => exact d m (Nat.lt_of_succ_lt_succ hm)
def lowIx (ks : List Int) (i : Nat) : List Int := ((List.range i).filter fun j => decide (ks.getD j 2 < 2)).map fun j : Nat => (j : Int)
theorem lowIx_succ (ks : List Int) (i : Nat) : lowIx ks (i + 1) = if ks.getD i 2 < 2 then lowIx ks i ++ [(i : Int)] else lowIx ks i := by
  unfold lowIx
  rw [List.range_succ, List.filter_append, List.map_append]
  by_cases h : ks.getD i 2 < 2
  · have e : [i].filter (fun j => decide (ks.getD j 2 < 2)) = [i] := by
      rw [List.filter_cons, decide_eq_true h]
      rfl
    rw [if_pos h, e]
    rfl
  · have e : [i].filter (fun j => decide (ks.getD j 2 < 2)) = [] := by
      rw [List.filter_cons, decide_eq_false h]
      rfl
    rw [if_neg h, e]
    exact List.append_nil _
theorem lowIx_len (ks : List Int) (i : Nat) : (lowIx ks i).length ≤ i := by
  unfold lowIx
  rw [List.length_map]
  have := List.length_filter_le (fun j => decide (ks.getD j 2 < 2)) (List.range i)
  rwa [List.length_range] at this
theorem lowIx_none {ks : List Int} : ∀ {i : Nat}, (∀ m, m < i → 2 ≤ ks.getD m 2) → lowIx ks i = []
  | 0, _ => rfl
  | i + 1, h => by
    rw [lowIx_succ, if_neg (by have := h i (by omega); omega)]
    exact lowIx_none fun m hm => h m (by omega)
theorem lowIx_head {ks : List Int} {j : Nat} (a : ks.getD j 2 < 2) (b : ∀ m, m < j → 2 ≤ ks.getD m 2) : ∀ {i : Nat}, j < i → ∃ r, lowIx ks i = (j : Int) :: r
  | i + 1, h => by
    rw [lowIx_succ]
    by_cases e : j = i
    · subst e
      rw [if_pos a, lowIx_none b]
      exact ⟨[], rfl⟩
    · obtain ⟨r, hr⟩ := lowIx_head a b (i := i) (by omega)
      rw [hr]
      split
      · exact ⟨_, rfl⟩
      · exact ⟨_, rfl⟩
theorem low_none {ks : List Int} (h : lowAt ks = none) : lowIx ks ks.length = [] := lowIx_none fun m hm => by
  have : ∀ {ks : List Int} {m : Nat}, lowAt ks = none → 2 ≤ ks.getD m 2 := fun {ks} => by
    induction ks with
    | nil => intro m _; cases m <;> exact Int.le_refl _
    | cons k ks ih =>
      intro m h
      have h' : (if k < 2 then some 0 else (lowAt ks).map (· + 1)) = none := h
      by_cases c : k < 2
      · rw [if_pos c] at h'; cases h'
      · rw [if_neg c] at h'
        have h2 : lowAt ks = none := by
          cases q : lowAt ks with
          | none => rfl
          | some i => rw [q] at h'; cases h'
        cases m with
        | zero => show 2 ≤ k; omega
        | succ m => exact ih h2
  exact this h
theorem low_some {ks : List Int} {j : Nat} (h : lowAt ks = some j) : ∃ r, lowIx ks ks.length = (j : Int) :: r := by
  obtain ⟨a, b, c⟩ := lowAt_some h
  exact lowIx_head b c a
/-- the heap without one cell -/
def wo (H : Hp) (D : Addr) : Hp := fun b => if b = D then none else H b
theorem wo_upd {H : Hp} {D : Addr} {o : HO} : wo (upd H D o) D = wo H D := by
  funext b
  unfold wo
  by_cases h : b = D
  · rw [if_pos h, if_pos h]
  · rw [if_neg h, if_neg h, upd_ne h]
theorem wo_ne {H : Hp} {D b : Addr} (h : b ≠ D) : wo H D b = H b := by
  unfold wo
  rw [if_neg h]
theorem wo_same {H : Hp} {D : Addr} : Same (wo H D) H := fun b o e => by
  unfold wo at e
  by_cases h : b = D
  · rw [if_pos h] at e; cases e
  · rw [if_neg h] at e; exact e
theorem same_wo {G H : Hp} {D : Addr} (s : Same G H) (h : G D = none) : Same G (wo H D) := fun b o e => by
  rw [wo_ne (fun z => by subst z; rw [h] at e; cases e)]
  exact s b o e
theorem wo_self {H : Hp} {D : Addr} : wo H D D = none := by
  unfold wo
  rw [if_pos rfl]
theorem dp_snoc {K : PySem.W.Frag} {H : Hp} {v : V} {d : PyData} (h : Dp K H v d) : ∀ {xs : List V} {ds : List PyData}, DpAll K H xs ds → DpAll K H (xs ++ [v]) (ds ++ [d])
  | _, _, .nil => .cons h .nil
  | _, _, .cons a t => .cons a (dp_snoc h t)
end Sq

set_option Elab.async false
set_option linter.all false
set_option maxRecDepth 100000
set_option maxHeartbeats 2000000
/-! sorted of a set of ints, any number of members. -/
namespace Sq
open PySem PySem.Spec PyProof.Rows L2
theorem set_sorted {P : Program} {w : World} {A : Around} {E : Value → Shared → Prop} {s : Shared} {a : Addr} {S : Int → Bool} {n : Nat} {Q : Value → Shared → Prop} (R : SetR w s.heap a S n) (quiet : A.handled = none) (few : n ≤ sizeLine)
    (fin : ∀ s' p (got : List Value) (ep : Nat) (ns : List Int), (∀ b o, s.heap.get? b = some o → s'.heap.get? b = some o) → s'.gens = s.gens → s'.os = s.os → s.heap.objs.size ≤ p → s'.heap.get? p = some (seqObj "list" got.toArray ep) →
      IntsAre got ns → ns.Pairwise (· < ·) → (∀ k, k ∈ ns ↔ S k = true) → ns.length = n → Q (.ref p) s') : wpAny (model P w) A (call (.builtin "sorted") [.ref a]) Q E s := by
  obtain ⟨o, es, ep, t, get, exact', data, good, once, mem, bound, fits, size, ris, led⟩ := R
  apply Calls.call_function_entry kind_sorted plain_sorted entry_sorted (args_sorted1 _)
  unfold Builtin.«sorted»
  apply wpAny_bind (m := checkCount "sorted" 1 1 _)
  apply wpAny_pure
  apply wpAny_bind
  refine collect_set (A := A.in1) quiet ⟨o, get, exact'.1, data⟩ fits bound ris led fun s1 vs kept grown gens os perm => ?_
  have len : vs.length = n := by
    rw [perm.length_eq, List.length_map, Array.length_toList]
    exact size
  have areInts : IntsAre vs (vs.map Builtin.Re.reRawOf) := ints_of vs fun v hv => by
    obtain ⟨e, he, q⟩ := List.mem_map.mp (perm.mem_iff.mp hv)
    obtain ⟨k, tk, h1, _⟩ := good e he
    exact ⟨k, tk, q ▸ h1⟩
  have keys : (vs.map Builtin.Re.reRawOf).Perm (es.toList.map keyOf) := by
    have := perm.map Builtin.Re.reRawOf
    rwa [List.map_map] at this
  apply wpAny_bind
  refine wpAny_newList ?_ (by omega)
  have fresh : (s1.heap.push (seqObj "list" vs.toArray 0)).get? s1.heap.objs.size = some (seqObj "list" vs.toArray 0) := Heap.get?_push_size _ rfl
  apply wpAny_bind
  apply wpAny_holding
  refine wpAny_call_entry slot_list_sort ⟨_, fresh, rfl⟩ entry_list_sort ?_ (args_list_sort _)
  refine SrtO.list_sort_ord SrtO.swo_int fresh (by omega) (fun two => SrtO.ints_sortable areInts two) fun out up stable => ⟨_, rfl, ?_⟩
  obtain ⟨i1, i2, i3⟩ := SrtO.ints_out areInts up stable
  obtain ⟨c, hc⟩ := sortedHeap_at (vs := vs) (out := out.toArray) fresh
  have all := i2.trans keys
  apply wpAny_pure
  refine ⟨_, rfl, fin _ s1.heap.objs.size out c (out.map SrtO.iv) (fun b u e => ?_) gens os grown hc i1 (lt_of_le_nodup _ i3 (all.nodup_iff.mpr once)) (fun k => by rw [all.mem_iff, ← mem k]) ?_⟩
  · have old := kept b u e
    have lt := Heap.lt_size old
    refine (sortedHeap_old (Nat.ne_of_lt lt) ?_).trans (Heap.get?_push_of_some _ old)
    rw [size_push']
    exact Nat.lt_succ_of_lt lt
  · rw [all.length_eq, List.length_map, Array.length_toList, size]
def rSortedSetI (w : World) : List V → Hp → VK → Prop := fun vs H Q => ∃ (a : Addr) (S : Int → Bool) (n : Nat), vs = [V.ref a] ∧ H a = some (SetO w a S n) ∧ n ≤ sizeLine ∧
  ∀ (ns : List Int) (p : Addr), ns.Pairwise (· < ·) → (∀ k : Int, k ∈ ns ↔ S k = true) → ns.length = n → H p = none → Q (.ref p) (upd H p (.lst (ns.map V.int)))
theorem cr_sortedSetI {X : Cx} (hc : X.calm = true) : CallR X (.builtin "sorted") (rSortedSetI X.w) := by
  intro pins s σ H vs us Q I r h
  obtain ⟨a, S, n, rfl, ha, few, q⟩ := h
  rw [Vals.ref1 r]
  refine set_sorted (setO_get I ha) (I.ok.hd hc) few fun s' p got ep ns kept g os lp hg areI up mem len => ?_
  have free : H p = none := I.hok.fresh lp
  have sz : (ns.map V.int).length ≤ sizeLine := by
    rw [List.length_map]
    omega
  have same : s' = { s with heap := s'.heap, gens := s'.gens, drawn := s'.drawn, toks := s'.toks } := by
    cases s'
    cases s
    cases os
    rfl
  rw [same]
  exact ⟨.ref p, upd H p (.lst (ns.map V.int)), I.call (ch := []) (Un.laid kept lp free) (I.hok.laid kept lp ⟨sz, got, ep, vals_of_ints areI, hg⟩) (by rw [g]; exact I.bare) (fun _ z => nomatch z), rfl, q ns p up mem len free⟩
end Sq

set_option Elab.async false
set_option linter.all false
set_option maxRecDepth 100000
set_option maxHeartbeats 4000000
/-! {e for a in xs for b in ys}, e an int: over the library's rules of the same with a list. -/
namespace Sq
open PySem PySem.Spec PyProof.Rows L2
theorem turnS_out (elt t0 i0 t1 i1 : Expr) (ifs0 ifsB : List Expr) (scope : Scope) (pos : Pos) (it acc : Value) (env : Env) :
    compTurn (.SetComp elt [⟨t0, i0, ifs0, 0⟩, ⟨t1, i1, ifsB, 0⟩] scope pos) 0 it acc env = (do
      standAt i0.pos
      match ← pyNext it with
      | none => pure (.done .next)
      | some v =>
        letOwnedTupleGo t0 it v
        assign t0 env v
        let mut ok := true
        for c in ifs0 do
          if ok then ok ← isTrue c env (eval c env)
        if ok then
          let x ← eval i1 env
          standAt i1.pos
          let x ← foldedSetIterable i1 env x
          let _ ← runOwn (.compStart (.SetComp elt [⟨t0, i0, ifs0, 0⟩, ⟨t1, i1, ifsB, 0⟩] scope pos) 1 (← holding [x] (pyIter x)) acc env) env
        again (.compLoop (.SetComp elt [⟨t0, i0, ifs0, 0⟩, ⟨t1, i1, ifsB, 0⟩] scope pos) 0 it acc env)) := by rfl
theorem turnS_in (elt t0 i0 t1 i1 : Expr) (ifs0 ifsB : List Expr) (scope : Scope) (pos : Pos) (it acc : Value) (env : Env) :
    compTurn (.SetComp elt [⟨t0, i0, ifs0, 0⟩, ⟨t1, i1, ifsB, 0⟩] scope pos) 1 it acc env = (do
      standAt i1.pos
      match ← pyNext it with
      | none => pure (.done .next)
      | some v =>
        letOwnedTupleGo t1 it v
        assign t1 env v
        let mut ok := true
        for c in ifsB do
          if ok then ok ← isTrue c env (eval c env)
        if ok then
          (do let v ← eval elt env; standAt elt.pos; let _ ← call (.builtin "set.add") [acc, v])
        again (.compLoop (.SetComp elt [⟨t0, i0, ifs0, 0⟩, ⟨t1, i1, ifsB, 0⟩] scope pos) 1 it acc env)) := by rfl

section
variable {prog : Program} {w : World} {A : Around} {R : Result → Shared → Prop} {s : Shared} {elt t0 i0 t1 i1 : Expr} {ifs0 ifsB : List Expr} {scope : Scope} {pos : Pos} {it acc : Value} {env : Env}
/-- the outer0 of the first clause -/
theorem loopS_out (plainA : ∀ x, foldedSetIterable i1 env x = pure x) (I : Nat → Shared → Prop)
    (walk0 : ∀ n s, I n s → wpAny (model prog w) A (pyNext it) (fun r s₁ => match r with
      | none => R (.ok .next) s₁
      | some v => wpAny (model prog w) A (letOwnedTupleGo t0 it v) (fun _ s₁' => wpAny (model prog w) A (assign t0 env v) (fun _ s₂ =>
          wpAny (model prog w) A (forIn ifs0 true fun c r => if r = true then do let ok ← isTrue c env (eval c env); pure (ForInStep.yield ok) else pure (ForInStep.yield r)) (fun ok s₃ =>
            if ok = true then wpAny (model prog w) A (eval i1 env) (fun x s₄ => wpAny (model prog w) A (pyIter x) (fun itB s₅ =>
              codeAny (model prog w) A (.compStart (.SetComp elt [⟨t0, i0, ifs0, 0⟩, ⟨t1, i1, ifsB, 0⟩] scope pos) 1 itB acc env) (fun r s' => match r with
                | .ok _ => ∃ m, m < n ∧ I m s'
                | .error _ => False) s₅) (notedBy (model prog w) A env fun e s' => R (.error e) s') s₄) (notedBy (model prog w) A env fun e s' => R (.error e) s') s₃
            else ∃ m, m < n ∧ I m s₃) (notedBy (model prog w) A env fun e s' => R (.error e) s') s₂) (notedBy (model prog w) A env fun e s' => R (.error e) s') s₁') (notedBy (model prog w) A env fun e s' => R (.error e) s') s₁) (notedBy (model prog w) A env fun e s' => R (.error e) s') s)
    (n : Nat) (h : I n s) :
    codeAny (model prog w) A (.compLoop (.SetComp elt [⟨t0, i0, ifs0, 0⟩, ⟨t1, i1, ifsB, 0⟩] scope pos) 0 it acc env) R s := by
  refine codeAny_loop rfl I (fun n s hI => ?_) n h
  show wpAny _ A ((compTurn (.SetComp elt [⟨t0, i0, ifs0, 0⟩, ⟨t1, i1, ifsB, 0⟩] scope pos) 0 it acc env).onRaise (fun x => do noteFrame x env; theTreesLotGoes x)) _ _ s
  refine wpAny_noted ?_
  rw [turnS_out]
  refine wpAny_bind (wpAny_standAt (wpAny_bind (wpAny_mono (walk0 n s hI) (fun r s₁ h₁ => ?_) fun _ _ h' => h')))
  cases r with
  | none => exact wpAny_pure h₁
  | some v =>
    refine wpAny_bind (wpAny_mono h₁ (fun _ s₁' h₁' => ?_) fun _ _ h' => h')
    refine wpAny_bind (wpAny_mono h₁' (fun _ s₂ h₂ => wpAny_bind (wpAny_mono h₂ (fun ok s₃ h₃ => ?_) fun _ _ h' => h')) fun _ _ h' => h')
    cases ok with
    | false => exact wpAny_pure ⟨rfl, h₃⟩
    | true =>
      refine wpAny_bind (wpAny_mono h₃ (fun x s₄ h₄ => ?_) fun _ _ h' => h')
      refine wpAny_bind (wpAny_standAt (wpAny_bind (wpAny_of_eq (plainA x) (wpAny_bind (wpAny_holding (wpAny_mono h₄ (fun itB s₅ h₅ => ?_) fun _ _ h' => h'))))))
      refine wpAny_bind (wpAny_runOwn ?_)
      rw [Around.mark_none]
      refine codeAny_mono h₅ fun r s' hr => ?_
      cases r with
      | ok f =>
        first
          | exact wpAny_pure ⟨rfl, hr⟩
          | exact wpAny_bind (wpAny_pure (wpAny_pure ⟨rfl, hr⟩))
      | error e => exact hr.elim
/-- the outer0 of the second -/
theorem loopS_in (I : Nat → Shared → Prop)
    (walk0 : ∀ n s, I n s → wpAny (model prog w) A (pyNext it) (fun r s₁ => match r with
      | none => R (.ok .next) s₁
      | some v => wpAny (model prog w) A (letOwnedTupleGo t1 it v) (fun _ s₁' => wpAny (model prog w) A (assign t1 env v) (fun _ s₂ =>
          wpAny (model prog w) A (forIn ifsB true fun c r => if r = true then do let ok ← isTrue c env (eval c env); pure (ForInStep.yield ok) else pure (ForInStep.yield r)) (fun ok s₃ =>
            if ok = true then wpAny (model prog w) A (eval elt env) (fun x s₄ =>
              wpAny (model prog w) A (call (.builtin "set.add") [acc, x]) (fun _ s₅ => ∃ m, m < n ∧ I m s₅) (notedBy (model prog w) A env fun e s' => R (.error e) s') s₄) (notedBy (model prog w) A env fun e s' => R (.error e) s') s₃
            else ∃ m, m < n ∧ I m s₃) (notedBy (model prog w) A env fun e s' => R (.error e) s') s₂) (notedBy (model prog w) A env fun e s' => R (.error e) s') s₁') (notedBy (model prog w) A env fun e s' => R (.error e) s') s₁) (notedBy (model prog w) A env fun e s' => R (.error e) s') s)
    (n : Nat) (h : I n s) :
    codeAny (model prog w) A (.compLoop (.SetComp elt [⟨t0, i0, ifs0, 0⟩, ⟨t1, i1, ifsB, 0⟩] scope pos) 1 it acc env) R s := by
  refine codeAny_loop rfl I (fun n s hI => ?_) n h
  show wpAny _ A ((compTurn (.SetComp elt [⟨t0, i0, ifs0, 0⟩, ⟨t1, i1, ifsB, 0⟩] scope pos) 1 it acc env).onRaise (fun x => do noteFrame x env; theTreesLotGoes x)) _ _ s
  refine wpAny_noted ?_
  rw [turnS_in]
  refine wpAny_bind (wpAny_standAt (wpAny_bind (wpAny_mono (walk0 n s hI) (fun r s₁ h₁ => ?_) fun _ _ h' => h')))
  cases r with
  | none => exact wpAny_pure h₁
  | some v =>
    refine wpAny_bind (wpAny_mono h₁ (fun _ s₁' h₁' => ?_) fun _ _ h' => h')
    refine wpAny_bind (wpAny_mono h₁' (fun _ s₂ h₂ => wpAny_bind (wpAny_mono h₂ (fun ok s₃ h₃ => ?_) fun _ _ h' => h')) fun _ _ h' => h')
    cases ok with
    | false => exact wpAny_pure ⟨rfl, h₃⟩
    | true =>
      exact wpAny_bind (wpAny_bind (wpAny_mono h₃ (fun x s₄ h₄ => wpAny_bind (wpAny_standAt (wpAny_bind (wpAny_mono h₄ (fun _ s₅ h₅ => wpAny_pure (wpAny_pure ⟨rfl, h₅⟩)) fun _ _ h' => h')))) fun _ _ h' => h'))
/-- the second clause's start -/
theorem startS_in (h0 : codeAny (model prog w) A (.compLoop (.SetComp elt [⟨t0, i0, ifs0, 0⟩, ⟨t1, i1, ifsB, 0⟩] scope pos) 1 it acc env) R s)
    (h : wpAny (model prog w) A (pyIter it) (fun it' s' => codeAny (model prog w) A (.compLoop (.SetComp elt [⟨t0, i0, ifs0, 0⟩, ⟨t1, i1, ifsB, 0⟩] scope pos) 1 it' acc env) R s')
      (notedBy (model prog w) A env fun x s' => R (.error x) s') s) :
    codeAny (model prog w) A (.compStart (.SetComp elt [⟨t0, i0, ifs0, 0⟩, ⟨t1, i1, ifsB, 0⟩] scope pos) 1 it acc env) R s := by
  refine codeAny_of_tree ?_
  show wpAny _ _ ((compStart (.SetComp elt [⟨t0, i0, ifs0, 0⟩, ⟨t1, i1, ifsB, 0⟩] scope pos) 1 it acc env).onRaise (fun x => do noteFrame x env; standAt theWindowsPlace)) _ _ s
  refine wpAny_notedAt ?_
  unfold compStart
  show wpAny _ _ (ask >>= _) _ _ s
  refine wpAny_bind (wpAny_askSetting (wpAny_ite ?_))
  split
  · first
      | exact wpAny_bind (wpAny_pure (wpAny_pure (And.intro rfl h0)))
      | exact wpAny_pure (And.intro rfl h0)
  · first
      | exact wpAny_bind (wpAny_rule (wpAny_bind (wpAny_standAt (wpAny_bind (wpAny_mono h (fun it' s' h' => wpAny_pure (And.intro rfl h')) fun _ _ x => x)))))
      | (refine wpAny_bind (wpAny_rule ?_); show wpAny _ _ (standAt i1.pos >>= _) _ _ s; exact wpAny_bind (wpAny_standAt (wpAny_bind (wpAny_mono h (fun it' s' h' => wpAny_pure (And.intro rfl h')) fun _ _ x => x))))
end

section
variable {X : Cx}
theorem addI_ok {pins : List (Addr × Obj)} {σ : L2.St} {H : Hp} {s : Shared} {E : Value → Shared → Prop} {D : Addr} {S : Int → Bool} {n : Nat} {y : Int} {ty : Tok} {Q : Value → Shared → Prop} (I : Inv X pins σ H s) (at_ : H D = some (SetO X.w D S n)) (room : n + 1 < scanBound)
    (h : ∀ s', Inv X pins σ (upd H D (SetO X.w D (fun j => S j || decide (j = y)) (if S y = true then n else n + 1))) s' → Q .none s') : wpAny (model X.prog X.w) X.A (call (.builtin "set.add") [.ref D, .int y ty]) Q E s := by
  refine setR_add (setO_get I at_) room fun h' same made => ?_
  have there : ∃ u, h'.get? D = some u := by
    have ⟨o, _, _, _, ho, _⟩ := made
    exact ⟨o, ho⟩
  exact h _ (I.write (e := D) (t' := s.toks + 1) (by rw [at_]; trivial) (.inl rfl) (fun b u hb hu => (same.2 b hb).trans hu) there (setO_new made))
/-- [elt for tg in iter if .. for tgB in iterB if ..]: behind the first clause's store and tests the second source's own outer0, from which NxA is reached. vs: the block's names; vsB: those of the second target -/
def tSc2 (w : World) (wi : TI) (g : TG) (tt : TT) (wiB : TI) (gB : TG) (ttB : TT) (te : TE) (vs vsB : List Nat) : TE := fun σ H Q => wi σ H fun J H1 => ∀ D, H1 D = none → ∃ W : Nat → Nat → Hp → Prop, (∃ m, W 0 m (upd H1 D (SetO w D (fun _ => false) 0))) ∧ ∀ i m H, W i m H →
  (J.stop i H ∧ Q (.ref D) H) ∨ (J.go i H ∧ ∃ NxA : Hp → Prop, (∀ H', NxA H' → ∃ m', m' < m ∧ W (i + 1) m' H') ∧ ∀ x H', J.yld i H x H' → g x (wipe σ vs) H' fun σa HB => wipe σa vs = wipe σ vs ∧ tt σa HB fun b HC =>
    if b = true then wiB σa HC fun JB HD => ∃ WB : Nat → Nat → Hp → Prop, (∃ m, WB 0 m HD) ∧ ∀ j k H, WB j k H →
      (JB.stop j H ∧ NxA H) ∨ (JB.go j H ∧ ∃ NxB : Hp → Prop, (∀ H', NxB H' → ∃ k', k' < k ∧ WB (j + 1) k' H') ∧ ∀ x H', JB.yld j H x H' → gB x (wipe σa vsB) H' fun σb HE => wipe σb vsB = wipe σa vsB ∧ ttB σb HE fun b HF =>
        if b = true then te σb HF fun y HG => ∃ (c : Int) (S : Int → Bool) (n : Nat), y = .int c ∧ HG D = some (SetO w D S n) ∧ n + 1 < scanBound ∧ NxB (upd HG D (SetO w D (fun j => S j || decide (j = c)) (if S c = true then n else n + 1))) else NxB HF)
    else NxA HC)
theorem sc2_core {pins : List (Addr × Obj)} {s : Shared} {σ : L2.St} {H : Hp} {Q : VK} {elt tg iter tgB iterB : Expr} {ifs ifsB : List Expr} {scope : Scope} {own : List (Str × Nat)} {vsB : List Nat} {pos pos' : Pos} {wi wiB : TI} {g gB : TG} {tt ttB : TT} {te : TE} {use : Option (Value → Sem Unit)} {Qf : Value → Shared → Prop}
    (mood : X.calm = true) (nodupN : X.N.Nodup) (I : Inv X pins σ H s) (sourceA : PI X tg iter wi) (ok : BlkOk X.N X.env.scope scope own) (subB : ∀ i ∈ vsB, i ∈ own.map (·.2))
    (targetA : ∀ (s : Shared) (H : Hp) (C : Addr) (cl : List (Str × Addr)) (fp : List Addr), PG (X.blk s H scope (compEnvC scope cl C X.env) fp) tg g) (testsA : ∀ (s : Shared) (H : Hp) (C : Addr) (cl : List (Str × Addr)) (fp : List Addr), PTs (X.blk s H scope (compEnvC scope cl C X.env) fp) ifs tt)
    (elemA : ∀ (s : Shared) (H : Hp) (C : Addr) (cl : List (Str × Addr)) (fp : List Addr), PE (X.blk s H scope (compEnvC scope cl C X.env) fp) elt te) (plainA : ∀ x, foldedSetIterable iter X.env x = pure x)
    (sourceB : ∀ (s : Shared) (H : Hp) (C : Addr) (cl : List (Str × Addr)) (fp : List Addr), PI (X.blk s H scope (compEnvC scope cl C X.env) fp) tgB iterB wiB)
    (targetB : ∀ (s : Shared) (H : Hp) (C : Addr) (cl : List (Str × Addr)) (fp : List Addr), PG (X.blk s H scope (compEnvC scope cl C X.env) fp) tgB gB)
    (testsB : ∀ (s : Shared) (H : Hp) (C : Addr) (cl : List (Str × Addr)) (fp : List Addr), PTs (X.blk s H scope (compEnvC scope cl C X.env) fp) ifsB ttB)
    (plainB : ∀ env x, foldedSetIterable iterB env x = pure x)
    (h : tSc2 X.w wi g tt wiB gB ttB te (own.map (·.2)) vsB σ H Q)
    (back : ∀ D C s' m H', Inv X pins σ H' s' → Q (.ref D) H' → s'.heap.Ns C m → FpOk X pins H' C → compPost (model X.prog X.w) X.A X.xe use Qf (.ref D) C (.ok .next) s') :
    wpAny (model X.prog X.w) X.A (comprehension (.SetComp elt [⟨tg, iter, ifs, 0⟩, ⟨tgB, iterB, ifsB, 0⟩] scope pos) scope X.env pos' (newSet (.type "set")) false (eval iter X.env) use) Qf X.xe s := by
  have captured : ∀ y ∈ scope.names, y.2 = .free → ∃ c, X.env.cells.lookup y.1 = some c := fun y hy e => by
    rcases ok.free y hy e with k | k
    · exact I.ok.has _ (.inl k)
    · exact I.ok.has _ (.inr k)
  refine wpAny_comprehension_free (use := use) rfl plainA (closure_ok captured) ok.kind (fun y hy e => by rw [ok.uniq y hy, e])
    (thn (sourceA.run pins s σ H _ I h) fun srcV sA gotX => thn gotX fun itV sB h2 => ?_)
  obtain ⟨it, fp, tn, J, HB, e, I2, T, st2, f2, q⟩ := h2
  subst e
  refine PpSet.newSet_ok (newEnv_comp ?_)
  generalize atD : sB.heap.objs.size = D
  have freshD : HB D = none := I2.hok.fresh (Nat.le_of_eq atD)
  obtain ⟨W, ⟨mes0, inv0⟩, walk0⟩ := q D freshD
  -- the new list
  generalize laid3 : ({ sB with heap := sB.heap.push { cls := .type "set", dict := none, data := .set #[] 0 (.fresh 0 0 (!X.w.params.followText "set-order")) } } : Shared) = sC
  have J3 : Inv X pins σ (upd HB D (SetO X.w D (fun _ => false) 0)) sC := by
    rw [← laid3]
    refine I2.laid (t' := sB.toks) (fun b o e => Heap.get?_push_of_some _ e) (Nat.le_of_eq atD) ?_
    rw [← atD]
    exact setO_new (setR_fresh X.w)
  have heap3 : sC.heap = sB.heap.push { cls := .type "set", dict := none, data := .set #[] 0 (.fresh 0 0 (!X.w.params.followText "set-order")) } := by rw [← laid3]
  have below : ∀ b ∈ fp, b < sB.heap.objs.size := fun b hb => by
    obtain ⟨o, e, _⟩ := T.obj _ _ st2 b hb
    exact Heap.lt_size e
  have roam3 : ∀ b ∈ fp, FpOk X pins (upd HB D (SetO X.w D (fun _ => false) 0)) b ∧ b < sC.heap.objs.size := fun b hb => by
    have hlt := below b hb
    refine ⟨⟨?_, (f2 b hb).2⟩, by rw [heap3, Heap.size_push]; exact Nat.lt_succ_of_lt hlt⟩
    rw [upd_ne (by rw [← atD]; exact Nat.ne_of_lt hlt)]
    exact (f2 b hb).1
  have turn3 : tn 0 sC.heap := T.keep _ _ _ st2 fun b _ o e => by rw [heap3]; exact Heap.get?_push_of_some _ e
  have J4 := block_start J3 ok nodupN roam3
  have tgt := targetA sC (upd HB D (SetO X.w D (fun _ => false) 0)) sC.heap.objs.size (cellsFrom (sC.heap.objs.size + 1) scope.names (cloFrom X.env.cells scope.names [])) fp
  have tst := testsA sC (upd HB D (SetO X.w D (fun _ => false) 0)) sC.heap.objs.size (cellsFrom (sC.heap.objs.size + 1) scope.names (cloFrom X.env.cells scope.names [])) fp
  have elm := elemA sC (upd HB D (SetO X.w D (fun _ => false) 0)) sC.heap.objs.size (cellsFrom (sC.heap.objs.size + 1) scope.names (cloFrom X.env.cells scope.names [])) fp
  have src1 := sourceB sC (upd HB D (SetO X.w D (fun _ => false) 0)) sC.heap.objs.size (cellsFrom (sC.heap.objs.size + 1) scope.names (cloFrom X.env.cells scope.names [])) fp
  have tgt1 := targetB sC (upd HB D (SetO X.w D (fun _ => false) 0)) sC.heap.objs.size (cellsFrom (sC.heap.objs.size + 1) scope.names (cloFrom X.env.cells scope.names [])) fp
  have tst1 := testsB sC (upd HB D (SetO X.w D (fun _ => false) 0)) sC.heap.objs.size (cellsFrom (sC.heap.objs.size + 1) scope.names (cloFrom X.env.cells scope.names [])) fp
  show codeAny _ _ (.compStart (.SetComp elt [⟨tg, iter, ifs, 0⟩, ⟨tgB, iterB, ifsB, 0⟩] scope pos) 0 (.ref it) (.ref D) (compEnvC scope (cellsFrom (sC.heap.objs.size + 1) scope.names (cloFrom X.env.cells scope.names [])) sC.heap.objs.size X.env)) (compPost (model X.prog X.w) X.A X.xe use Qf (.ref D) sC.heap.objs.size) { sC with heap := pushCells (sC.heap.push { cls := .type "dict", data := .dict #[] }) scope.names }
  have untr : ∀ b ∈ fp, (upd HB D (SetO X.w D (fun _ => false) 0)) b = none := fun b hb => (roam3 b hb).1.1
  generalize blkE : compEnvC scope (cellsFrom (sC.heap.objs.size + 1) scope.names (cloFrom X.env.cells scope.names [])) sC.heap.objs.size X.env = ce at J4 tgt tst elm src1 tgt1 tst1 ⊢
  have locE : ce.locals = sC.heap.objs.size := by subst blkE; rfl
  generalize heapE : upd HB D (SetO X.w D (fun _ => false) 0) = HC at J3 J4 tgt tst elm src1 tgt1 tst1 inv0 untr roam3
  generalize laid4 : ({ sC with heap := pushCells (sC.heap.push { cls := .type "dict", data := .dict #[] }) scope.names } : Shared) = sD at J4 ⊢
  have turn4 : tn 0 sD.heap := T.keep _ _ _ turn3 fun b _ o e => by rw [← laid4]; exact pushCells_keeps _ _ _ _ (Heap.get?_push_of_some _ e)
  have roams : ∀ {σ' : L2.St} {H' : Hp} {s' : Shared}, Inv (X.blk sC HC scope ce fp) [] σ' H' s' → (∀ b ∈ fp, H' b = none) → ∀ b ∈ fp, FpOk (X.blk sC HC scope ce fp) [] H' b := fun {σ' H' s'} I' nsC b hb =>
    ⟨nsC b hb, (I'.ok.exf b hb).1, I'.ok.exfs b hb, .inl hb, fun x c e => (I'.ok.exf b hb).2 x c e, fun p hp => absurd (show p ∈ ([] : List (Addr × Obj)) ++ [] from hp) (by simp)⟩
  have outer0 : codeAny (model X.prog X.w) X.A (.compLoop (.SetComp elt [⟨tg, iter, ifs, 0⟩, ⟨tgB, iterB, ifsB, 0⟩] scope pos) 0 (.ref it) (.ref D) ce) (compPost (model X.prog X.w) X.A X.xe use Qf (.ref D) sC.heap.objs.size) sD := by
    refine loopS_out (plainB ce) (fun n s' => ∃ i H', Inv (X.blk sC HC scope ce fp) [] (wipe σ (own.map (·.2))) H' s' ∧ tn i s'.heap ∧ (∀ b ∈ fp, H' b = none) ∧ W i n H') ?_ mes0 ⟨0, HC, J4, turn4, untr, inv0⟩
    rintro n sE ⟨i, HE, J5, turn5, un5, inv5⟩
    rcases walk0 i n HE inv5 with ⟨atEnd, done0⟩ | ⟨more, NxA, reach, body0⟩
    · have ended := T.done (X.blk sC HC scope ce fp) rfl rfl rfl mood i [] sE _ HE (fun _ _ => False) J5 (roams J5 un5) turn5 atEnd
      refine thnF ended fun r sF ⟨hr, J6⟩ => ?_
      subst hr
      -- back in the def's context
      have J7 : Inv X pins σ HE sF := J3.call' (ch := fp) J6.os J6.base J6.hok J6.bare fun b hb => ⟨(roam3 b hb).1.2.2.2.1, (roam3 b hb).1.2.1, (roam3 b hb).1.2.2.2.2.1, (roam3 b hb).1.2.2.2.2.2⟩
      have freeC : HE sC.heap.objs.size = none := by
        have z : HE ce.locals = none := J6.free
        rw [locE] at z
        exact z
      obtain ⟨m, nsC, _⟩ := J6.loc
      have nsC : sF.heap.Ns ce.locals m := nsC
      rw [locE] at nsC
      exact back D sC.heap.objs.size sF m HE J7 done0 nsC (J3.fpOk (Nat.le_refl _) freeC)
    · have given := T.item (X.blk sC HC scope ce fp) rfl rfl rfl mood i [] sE _ HE (fun _ _ => False) J5 (roams J5 un5) turn5 more
      refine thnF given fun r sF ⟨u, hr, got6⟩ => ?_
      subst hr
      refine thnF got6 fun _ sG ⟨x, HG, J7, rel7, yld7, turn7, un7⟩ => ?_
      have J7p := J7.pinned (roams J7 un7) (T.obj _ _ turn7)
      refine thnF (tgt.run _ sG _ HG x u _ J7p rel7 (body0 x HG yld7)) fun _ sH ⟨τ, HH, J8, wip8, go8⟩ => ?_
      refine thnF (tst.run _ sH τ HH _ J8 go8) fun b sI ⟨HI, J9, go9⟩ => ?_
      -- the turn's end, from any slots that know what the block knew at its start
      have close : ∀ {ρ : L2.St} {s' : Shared} {H' : Hp}, Inv (X.blk sC HC scope ce fp) ([] ++ pinsAt fp sG.heap) ρ H' s' → (wipe σ (own.map (·.2))).length = ρ.length → (∀ (j : Nat) v, (wipe σ (own.map (·.2)))[j]? = some (some v) → ρ[j]? = some (some v)) → NxA H' →
          ∃ m, m < n ∧ ∃ i H', Inv (X.blk sC HC scope ce fp) [] (wipe σ (own.map (·.2))) H' s' ∧ tn i s'.heap ∧ (∀ b ∈ fp, H' b = none) ∧ W i m H' := fun {ρ s' H'} I' lenσ hk nextW => by
        obtain ⟨m', lessM, invM⟩ := reach H' nextW
        have kept : ∀ b ∈ fp, ∀ o, sG.heap.get? b = some o → s'.heap.get? b = some o ∧ H' b = none := fun b hb o e =>
          let z := I'.pin (b, o) (List.mem_append_right _ (List.mem_append_right _ (mem_pinsAt hb e)))
          ⟨z.1, z.2.1⟩
        refine ⟨m', lessM, i + 1, H', (I'.unpinned (pins := [])).weak lenσ hk, T.keep _ _ _ turn7 fun b hb o e => (kept b hb o e).1, fun b hb => ?_, invM⟩
        obtain ⟨o, e, _⟩ := T.obj _ _ turn7 b hb
        exact (kept b hb o e).2
      have len8 : (wipe σ (own.map (·.2))).length = τ.length := by rw [← wip8, wipe_length]
      have know8 : ∀ (j : Nat) v, (wipe σ (own.map (·.2)))[j]? = some (some v) → τ[j]? = some (some v) := fun j v e => by
        rw [← wip8] at e
        exact (wipe_some e).1
      have know9 : ∀ (j : Nat) v, (wipe σ (own.map (·.2)))[j]? = some (some v) → (wipe τ vsB)[j]? = some (some v) := fun j v e => by
        rw [← wip8] at e
        obtain ⟨eqB, e2⟩ := wipe_some e
        rw [wipe_out fun z => e2 (subB j z)]
        exact eqB
      cases b with
      | false =>
        simp only [Bool.false_eq_true, if_false] at go9 ⊢
        exact close J9 len8 know8 go9
      | true =>
        simp only [if_true] at go9 ⊢
        refine thnF (src1.run _ sI τ HI _ J9 go9) fun srcV sJ gotX => thnF gotX fun itV sK got11 => ?_
        obtain ⟨itB, fpB, tnB, JB, HK, eqB, J11, T1, turn11, roam11, WB, ⟨mes1, inv1⟩, step_in⟩ := got11
        subst eqB
        -- the inner outer0
        have roams1 : ∀ {H' : Hp}, (∀ b ∈ fpB, H' b = none) → ∀ b ∈ fpB, FpOk (X.blk sC HC scope ce fp) ([] ++ pinsAt fp sG.heap) H' b := fun nsC b hb => ⟨nsC b hb, (roam11 b hb).2⟩
        have inner0 : codeAny (model X.prog X.w) X.A (.compLoop (.SetComp elt [⟨tg, iter, ifs, 0⟩, ⟨tgB, iterB, ifsB, 0⟩] scope pos) 1 (.ref itB) (.ref D) ce)
            (fun r s' => match r with
              | .ok _ => ∃ m, m < n ∧ ∃ i H', Inv (X.blk sC HC scope ce fp) [] (wipe σ (own.map (·.2))) H' s' ∧ tn i s'.heap ∧ (∀ b ∈ fp, H' b = none) ∧ W i m H'
              | .error _ => False) sK := by
          refine loopS_in (fun k s' => ∃ j H', Inv (X.blk sC HC scope ce fp) ([] ++ pinsAt fp sG.heap) (wipe τ vsB) H' s' ∧ tnB j s'.heap ∧ (∀ b ∈ fpB, H' b = none) ∧ WB j k H') ?_ mes1 ⟨0, HK, J11.weak (wipe_length _ _) (fun j v e => (wipe_some e).1), turn11, fun b hb => (roam11 b hb).1, inv1⟩
          rintro k sL ⟨j, HL, J12, turn12, un12, inv12⟩
          rcases step_in j k HL inv12 with ⟨atEnd1, nextI⟩ | ⟨more1, NxB, reach1, body1⟩
          · refine thnF (T1.done (X.blk sC HC scope ce fp) rfl rfl rfl mood j _ sL (wipe τ vsB) HL (fun _ _ => False) J12 (roams1 un12) turn12 atEnd1) fun r sM ⟨hr, J13⟩ => ?_
            subst hr
            exact close J13 (len8.trans (wipe_length τ vsB).symm) know9 nextI
          · refine thnF (T1.item (X.blk sC HC scope ce fp) rfl rfl rfl mood j _ sL (wipe τ vsB) HL (fun _ _ => False) J12 (roams1 un12) turn12 more1) fun r sM ⟨u1, hr, got13⟩ => ?_
            subst hr
            refine thnF got13 fun _ sN ⟨x1, HN, J14, rel14, yld14, turn14, un14⟩ => ?_
            have J14p := J14.pinned (roams1 un14) (T1.obj _ _ turn14)
            refine thnF (tgt1.run _ sN (wipe τ vsB) HN x1 u1 _ J14p rel14 (body1 x1 HN yld14)) fun _ sO ⟨υ, HO, J15, wip15, go15⟩ => ?_
            refine thnF (tst1.run _ sO υ HO _ J15 go15) fun b1 sP ⟨HP, J16, go16⟩ => ?_
            have close1 : ∀ {s' : Shared} {H' : Hp}, Inv (X.blk sC HC scope ce fp) (([] ++ pinsAt fp sG.heap) ++ pinsAt fpB sN.heap) υ H' s' → NxB H' → ∃ m, m < k ∧ ∃ j H', Inv (X.blk sC HC scope ce fp) ([] ++ pinsAt fp sG.heap) (wipe τ vsB) H' s' ∧ tnB j s'.heap ∧ (∀ b ∈ fpB, H' b = none) ∧ WB j m H' := fun {s' H'} I' nextW => by
              obtain ⟨m', lessM, invM⟩ := reach1 H' nextW
              have kept : ∀ b ∈ fpB, ∀ o, sN.heap.get? b = some o → s'.heap.get? b = some o ∧ H' b = none := fun b hb o e =>
                let z := I'.pin (b, o) (List.mem_append_right _ (List.mem_append_right _ (mem_pinsAt hb e)))
                ⟨z.1, z.2.1⟩
              refine ⟨m', lessM, j + 1, H', I'.unpinned.weak (by rw [← wip15, wipe_length]) (fun j v e => by rw [← wip15] at e; exact (wipe_some e).1), T1.keep _ _ _ turn14 fun b hb o e => (kept b hb o e).1, fun b hb => ?_, invM⟩
              obtain ⟨o, e, _⟩ := T1.obj _ _ turn14 b hb
              exact (kept b hb o e).2
            cases b1 with
            | false =>
              simp only [Bool.false_eq_true, if_false] at go16 ⊢
              exact close1 J16 go16
            | true =>
              simp only [if_true] at go16 ⊢
              refine thnF (elm.run _ sP υ HP _ J16 go16) fun z sQ ⟨yv, HQ, J17, rel17, cb, S0, n0, ey, acc17, room17, nextW⟩ => ?_
              subst ey
              obtain ⟨tz, rfl⟩ := (show ∃ t, z = Value.int cb t from rel17)
              exact addI_ok (X := X.blk sC HC scope ce fp) J17 acc17 room17 fun sR J18 => close1 J18 nextW
        exact startS_in inner0 (T1.self X.A 0 _ _ _ turn11 inner0)
  exact PpSet.codeAny_compStart_set outer0 (T.self X.A 0 _ _ _ turn4 outer0)
/-- as a value -/
theorem pe_sc2 {elt tg iter tgB iterB : Expr} {ifs ifsB : List Expr} {scope : Scope} {own : List (Str × Nat)} {vsB : List Nat} {pos : Pos} {wi wiB : TI} {g gB : TG} {tt ttB : TT} {te : TE} (mood : X.calm = true) (nodupN : X.N.Nodup) (sourceA : PI X tg iter wi) (ok : BlkOk X.N X.env.scope scope own) (subB : ∀ i ∈ vsB, i ∈ own.map (·.2))
    (targetA : ∀ (s : Shared) (H : Hp) (C : Addr) (cl : List (Str × Addr)) (fp : List Addr), PG (X.blk s H scope (compEnvC scope cl C X.env) fp) tg g) (testsA : ∀ (s : Shared) (H : Hp) (C : Addr) (cl : List (Str × Addr)) (fp : List Addr), PTs (X.blk s H scope (compEnvC scope cl C X.env) fp) ifs tt)
    (sourceB : ∀ (s : Shared) (H : Hp) (C : Addr) (cl : List (Str × Addr)) (fp : List Addr), PI (X.blk s H scope (compEnvC scope cl C X.env) fp) tgB iterB wiB)
    (targetB : ∀ (s : Shared) (H : Hp) (C : Addr) (cl : List (Str × Addr)) (fp : List Addr), PG (X.blk s H scope (compEnvC scope cl C X.env) fp) tgB gB) (testsB : ∀ (s : Shared) (H : Hp) (C : Addr) (cl : List (Str × Addr)) (fp : List Addr), PTs (X.blk s H scope (compEnvC scope cl C X.env) fp) ifsB ttB)
    (elemA : ∀ (s : Shared) (H : Hp) (C : Addr) (cl : List (Str × Addr)) (fp : List Addr), PE (X.blk s H scope (compEnvC scope cl C X.env) fp) elt te) (plainA : ∀ x, foldedSetIterable iter X.env x = pure x := by intro _; rfl) (plainB : ∀ env x, foldedSetIterable iterB env x = pure x := by intro _ _; rfl) :
    PE X (.SetComp elt [⟨tg, iter, ifs, 0⟩, ⟨tgB, iterB, ifsB, 0⟩] scope pos) (tSc2 X.w wi g tt wiB gB ttB te (own.map (·.2)) vsB) := by
  refine ⟨fun pins s σ H Q I h => ?_⟩
  rw [PpSet.eval_SetComp]
  refine sc2_core mood nodupN I sourceA ok subB targetA testsA elemA plainA sourceB targetB testsB plainB h fun D C s' m H' I' q nsC f => ⟨m, nsC, fun h'' sb => ?_⟩
  obtain ⟨f0, f1, f2, roam3, f4, f5⟩ := f
  exact ⟨.ref D, H', I'.turned (t' := s'.toks) (fun b o hb e => (sb.2 b hb).trans e) f0 f1 roam3 f4 f5, rfl, q⟩
end
end Sq

set_option Elab.async false
set_option linter.all false
set_option maxRecDepth 100000
set_option maxHeartbeats 4000000
/-! {e for a in xs}, e an int. -/
namespace Sq
open PySem PySem.Spec PyProof.Rows L2
section
variable {X : Cx}
/-- {elt for tg in iter if ..}: D the new set of ints -/
def tSc1 (w : World) (wi : TI) (g : TG) (tt : TT) (te : TE) (vs : List Nat) : TE := fun σ H Q => wi σ H fun J H1 => ∀ D, H1 D = none → ∃ W : Nat → Nat → Hp → Prop, (∃ m, W 0 m (upd H1 D (SetO w D (fun _ => false) 0))) ∧ ∀ i m H, W i m H →
  (J.stop i H ∧ Q (.ref D) H) ∨ (J.go i H ∧ ∃ NxA : Hp → Prop, (∀ H', NxA H' → ∃ m', m' < m ∧ W (i + 1) m' H') ∧ ∀ x H', J.yld i H x H' → g x (wipe σ vs) H' fun σa HB => wipe σa vs = wipe σ vs ∧ tt σa HB fun b HF =>
    if b = true then te σa HF fun y HG => ∃ (c : Int) (S : Int → Bool) (n : Nat), y = .int c ∧ HG D = some (SetO w D S n) ∧ n + 1 < scanBound ∧ NxA (upd HG D (SetO w D (fun j => S j || decide (j = c)) (if S c = true then n else n + 1))) else NxA HF)
theorem sc1_core {pins : List (Addr × Obj)} {s : Shared} {σ : L2.St} {H : Hp} {Q : VK} {elt tg iter : Expr} {ifs : List Expr} {scope : Scope} {own : List (Str × Nat)} {pos pos' : Pos} {wi : TI} {g : TG} {tt : TT} {te : TE} {use : Option (Value → Sem Unit)} {Qf : Value → Shared → Prop}
    (mood : X.calm = true) (nodupN : X.N.Nodup) (I : Inv X pins σ H s) (sourceA : PI X tg iter wi) (ok : BlkOk X.N X.env.scope scope own)
    (targetA : ∀ (s : Shared) (H : Hp) (C : Addr) (cl : List (Str × Addr)) (fp : List Addr), PG (X.blk s H scope (compEnvC scope cl C X.env) fp) tg g) (testsA : ∀ (s : Shared) (H : Hp) (C : Addr) (cl : List (Str × Addr)) (fp : List Addr), PTs (X.blk s H scope (compEnvC scope cl C X.env) fp) ifs tt)
    (elemA : ∀ (s : Shared) (H : Hp) (C : Addr) (cl : List (Str × Addr)) (fp : List Addr), PE (X.blk s H scope (compEnvC scope cl C X.env) fp) elt te) (plainA : ∀ x, foldedSetIterable iter X.env x = pure x)
    (h : tSc1 X.w wi g tt te (own.map (·.2)) σ H Q)
    (back : ∀ D C s' m H', Inv X pins σ H' s' → Q (.ref D) H' → s'.heap.Ns C m → FpOk X pins H' C → compPost (model X.prog X.w) X.A X.xe use Qf (.ref D) C (.ok .next) s') :
    wpAny (model X.prog X.w) X.A (comprehension (.SetComp elt [⟨tg, iter, ifs, 0⟩] scope pos) scope X.env pos' (newSet (.type "set")) false (eval iter X.env) use) Qf X.xe s := by
  have captured : ∀ y ∈ scope.names, y.2 = .free → ∃ c, X.env.cells.lookup y.1 = some c := fun y hy e => by
    rcases ok.free y hy e with k | k
    · exact I.ok.has _ (.inl k)
    · exact I.ok.has _ (.inr k)
  refine wpAny_comprehension_free (use := use) rfl plainA (closure_ok captured) ok.kind (fun y hy e => by rw [ok.uniq y hy, e])
    (thn (sourceA.run pins s σ H _ I h) fun srcV sA gotX => thn gotX fun itV sB h2 => ?_)
  obtain ⟨it, fp, tn, J, HB, e, I2, T, st2, f2, q⟩ := h2
  subst e
  refine PpSet.newSet_ok (newEnv_comp ?_)
  generalize atD : sB.heap.objs.size = D
  have freshD : HB D = none := I2.hok.fresh (Nat.le_of_eq atD)
  obtain ⟨W, ⟨mes0, inv0⟩, walk0⟩ := q D freshD
  -- the new set
  generalize laid3 : ({ sB with heap := sB.heap.push { cls := .type "set", dict := none, data := .set #[] 0 (.fresh 0 0 (!X.w.params.followText "set-order")) } } : Shared) = sC
  have J3 : Inv X pins σ (upd HB D (SetO X.w D (fun _ => false) 0)) sC := by
    rw [← laid3]
    refine I2.laid (t' := sB.toks) (fun b o e => Heap.get?_push_of_some _ e) (Nat.le_of_eq atD) ?_
    rw [← atD]
    exact setO_new (setR_fresh X.w)
  have heap3 : sC.heap = sB.heap.push { cls := .type "set", dict := none, data := .set #[] 0 (.fresh 0 0 (!X.w.params.followText "set-order")) } := by rw [← laid3]
  have below : ∀ b ∈ fp, b < sB.heap.objs.size := fun b hb => by
    obtain ⟨o, e, _⟩ := T.obj _ _ st2 b hb
    exact Heap.lt_size e
  have roam3 : ∀ b ∈ fp, FpOk X pins (upd HB D (SetO X.w D (fun _ => false) 0)) b ∧ b < sC.heap.objs.size := fun b hb => by
    have hlt := below b hb
    refine ⟨⟨?_, (f2 b hb).2⟩, by rw [heap3, Heap.size_push]; exact Nat.lt_succ_of_lt hlt⟩
    rw [upd_ne (by rw [← atD]; exact Nat.ne_of_lt hlt)]
    exact (f2 b hb).1
  have turn3 : tn 0 sC.heap := T.keep _ _ _ st2 fun b _ o e => by rw [heap3]; exact Heap.get?_push_of_some _ e
  have J4 := block_start J3 ok nodupN roam3
  have tgt := targetA sC (upd HB D (SetO X.w D (fun _ => false) 0)) sC.heap.objs.size (cellsFrom (sC.heap.objs.size + 1) scope.names (cloFrom X.env.cells scope.names [])) fp
  have tst := testsA sC (upd HB D (SetO X.w D (fun _ => false) 0)) sC.heap.objs.size (cellsFrom (sC.heap.objs.size + 1) scope.names (cloFrom X.env.cells scope.names [])) fp
  have elm := elemA sC (upd HB D (SetO X.w D (fun _ => false) 0)) sC.heap.objs.size (cellsFrom (sC.heap.objs.size + 1) scope.names (cloFrom X.env.cells scope.names [])) fp
  show codeAny _ _ (.compStart (.SetComp elt [⟨tg, iter, ifs, 0⟩] scope pos) 0 (.ref it) (.ref D) (compEnvC scope (cellsFrom (sC.heap.objs.size + 1) scope.names (cloFrom X.env.cells scope.names [])) sC.heap.objs.size X.env)) (compPost (model X.prog X.w) X.A X.xe use Qf (.ref D) sC.heap.objs.size) { sC with heap := pushCells (sC.heap.push { cls := .type "dict", data := .dict #[] }) scope.names }
  have untr : ∀ b ∈ fp, (upd HB D (SetO X.w D (fun _ => false) 0)) b = none := fun b hb => (roam3 b hb).1.1
  generalize blkE : compEnvC scope (cellsFrom (sC.heap.objs.size + 1) scope.names (cloFrom X.env.cells scope.names [])) sC.heap.objs.size X.env = ce at J4 tgt tst elm ⊢
  have locE : ce.locals = sC.heap.objs.size := by subst blkE; rfl
  generalize heapE : upd HB D (SetO X.w D (fun _ => false) 0) = HC at J3 J4 tgt tst elm inv0 untr roam3
  generalize laid4 : ({ sC with heap := pushCells (sC.heap.push { cls := .type "dict", data := .dict #[] }) scope.names } : Shared) = sD at J4 ⊢
  have turn4 : tn 0 sD.heap := T.keep _ _ _ turn3 fun b _ o e => by rw [← laid4]; exact pushCells_keeps _ _ _ _ (Heap.get?_push_of_some _ e)
  have roams : ∀ {σ' : L2.St} {H' : Hp} {s' : Shared}, Inv (X.blk sC HC scope ce fp) [] σ' H' s' → (∀ b ∈ fp, H' b = none) → ∀ b ∈ fp, FpOk (X.blk sC HC scope ce fp) [] H' b := fun {σ' H' s'} I' nsC b hb =>
    ⟨nsC b hb, (I'.ok.exf b hb).1, I'.ok.exfs b hb, .inl hb, fun x c e => (I'.ok.exf b hb).2 x c e, fun p hp => absurd (show p ∈ ([] : List (Addr × Obj)) ++ [] from hp) (by simp)⟩
  have outer0 : codeAny (model X.prog X.w) X.A (.compLoop (.SetComp elt [⟨tg, iter, ifs, 0⟩] scope pos) 0 (.ref it) (.ref D) ce) (compPost (model X.prog X.w) X.A X.xe use Qf (.ref D) sC.heap.objs.size) sD := by
    refine PpSet.compLoopS_any (fun n s' => ∃ i H', Inv (X.blk sC HC scope ce fp) [] (wipe σ (own.map (·.2))) H' s' ∧ tn i s'.heap ∧ (∀ b ∈ fp, H' b = none) ∧ W i n H') ?_ mes0 ⟨0, HC, J4, turn4, untr, inv0⟩
    rintro n sE ⟨i, HE, J5, turn5, un5, inv5⟩
    rcases walk0 i n HE inv5 with ⟨atEnd, done0⟩ | ⟨more, NxA, reach, body0⟩
    · have ended := T.done (X.blk sC HC scope ce fp) rfl rfl rfl mood i [] sE _ HE (fun _ _ => False) J5 (roams J5 un5) turn5 atEnd
      refine thnF ended fun r sF ⟨hr, J6⟩ => ?_
      subst hr
      have J7 : Inv X pins σ HE sF := J3.call' (ch := fp) J6.os J6.base J6.hok J6.bare fun b hb => ⟨(roam3 b hb).1.2.2.2.1, (roam3 b hb).1.2.1, (roam3 b hb).1.2.2.2.2.1, (roam3 b hb).1.2.2.2.2.2⟩
      have freeC : HE sC.heap.objs.size = none := by
        have z : HE ce.locals = none := J6.free
        rw [locE] at z
        exact z
      obtain ⟨m, nsC, _⟩ := J6.loc
      have nsC : sF.heap.Ns ce.locals m := nsC
      rw [locE] at nsC
      exact back D sC.heap.objs.size sF m HE J7 done0 nsC (J3.fpOk (Nat.le_refl _) freeC)
    · have given := T.item (X.blk sC HC scope ce fp) rfl rfl rfl mood i [] sE _ HE (fun _ _ => False) J5 (roams J5 un5) turn5 more
      refine thnF given fun r sF ⟨u, hr, got6⟩ => ?_
      subst hr
      refine thnF got6 fun _ sG ⟨x, HG, J7, rel7, yld7, turn7, un7⟩ => ?_
      have J7p := J7.pinned (roams J7 un7) (T.obj _ _ turn7)
      refine thnF (tgt.run _ sG _ HG x u _ J7p rel7 (body0 x HG yld7)) fun _ sH ⟨τ, HH, J8, wip8, go8⟩ => ?_
      refine thnF (tst.run _ sH τ HH _ J8 go8) fun b sI ⟨HI, J9, go9⟩ => ?_
      have close : ∀ {s' : Shared} {H' : Hp}, Inv (X.blk sC HC scope ce fp) ([] ++ pinsAt fp sG.heap) τ H' s' → NxA H' →
          ∃ m, m < n ∧ ∃ i H', Inv (X.blk sC HC scope ce fp) [] (wipe σ (own.map (·.2))) H' s' ∧ tn i s'.heap ∧ (∀ b ∈ fp, H' b = none) ∧ W i m H' := fun {s' H'} I' nextW => by
        obtain ⟨m', lessM, invM⟩ := reach H' nextW
        have kept : ∀ b ∈ fp, ∀ o, sG.heap.get? b = some o → s'.heap.get? b = some o ∧ H' b = none := fun b hb o e =>
          let z := I'.pin (b, o) (List.mem_append_right _ (List.mem_append_right _ (mem_pinsAt hb e)))
          ⟨z.1, z.2.1⟩
        refine ⟨m', lessM, i + 1, H', (I'.unpinned (pins := [])).weak (by rw [← wip8, wipe_length]) (fun j v e => by rw [← wip8] at e; exact (wipe_some e).1), T.keep _ _ _ turn7 fun b hb o e => (kept b hb o e).1, fun b hb => ?_, invM⟩
        obtain ⟨o, e, _⟩ := T.obj _ _ turn7 b hb
        exact (kept b hb o e).2
      cases b with
      | false =>
        simp only [Bool.false_eq_true, if_false] at go9 ⊢
        exact close J9 go9
      | true =>
        simp only [if_true] at go9 ⊢
        refine thnF (elm.run _ sI τ HI _ J9 go9) fun z sQ ⟨yv, HQ, J17, rel17, cb, S0, n0, ey, acc17, room17, nextW⟩ => ?_
        subst ey
        obtain ⟨tz, rfl⟩ := (show ∃ t, z = Value.int cb t from rel17)
        exact addI_ok (X := X.blk sC HC scope ce fp) J17 acc17 room17 fun sR J18 => close J18 nextW
  exact PpSet.codeAny_compStart_set outer0 (T.self X.A 0 _ _ _ turn4 outer0)
/-- as a value -/
theorem pe_sc1 {elt tg iter : Expr} {ifs : List Expr} {scope : Scope} {own : List (Str × Nat)} {pos : Pos} {wi : TI} {g : TG} {tt : TT} {te : TE} (mood : X.calm = true) (nodupN : X.N.Nodup) (sourceA : PI X tg iter wi) (ok : BlkOk X.N X.env.scope scope own)
    (targetA : ∀ (s : Shared) (H : Hp) (C : Addr) (cl : List (Str × Addr)) (fp : List Addr), PG (X.blk s H scope (compEnvC scope cl C X.env) fp) tg g) (testsA : ∀ (s : Shared) (H : Hp) (C : Addr) (cl : List (Str × Addr)) (fp : List Addr), PTs (X.blk s H scope (compEnvC scope cl C X.env) fp) ifs tt)
    (elemA : ∀ (s : Shared) (H : Hp) (C : Addr) (cl : List (Str × Addr)) (fp : List Addr), PE (X.blk s H scope (compEnvC scope cl C X.env) fp) elt te) (plainA : ∀ x, foldedSetIterable iter X.env x = pure x := by intro _; rfl) :
    PE X (.SetComp elt [⟨tg, iter, ifs, 0⟩] scope pos) (tSc1 X.w wi g tt te (own.map (·.2))) := by
  refine ⟨fun pins s σ H Q I h => ?_⟩
  rw [PpSet.eval_SetComp]
  refine sc1_core mood nodupN I sourceA ok targetA testsA elemA plainA h fun D C s' m H' I' q nsC f => ⟨m, nsC, fun h'' sb => ?_⟩
  obtain ⟨f0, f1, f2, roam3, f4, f5⟩ := f
  exact ⟨.ref D, H', I'.turned (t' := s'.toks) (fun b o hb e => (sb.2 b hb).trans e) f0 f1 roam3 f4 f5, rfl, q⟩
end
end Sq

set_option Elab.async false
set_option linter.all false
set_option maxHeartbeats 1000000
/-! Two lists part at the run between their greatest origins of 1. -/
namespace Sq
theorem sq_cons (n k : Int) (ks : List Int) : sq n (k :: ks) = sq (once n k) ks := rfl
def pro (ks : List Int) : Int := ks.foldl (· * ·) 1
theorem pro_from : ∀ (ks : List Int) (n : Int), ks.foldl (· * ·) n = n * pro ks
  | [], n => (Int.mul_one n).symm
  | k :: ks, n => by
    show ks.foldl (· * ·) (n * k) = n * (ks.foldl (· * ·) (1 * k))
    rw [pro_from ks (n * k), pro_from ks (1 * k), Int.one_mul, Int.mul_assoc]
theorem pro_cons (k : Int) (ks : List Int) : pro (k :: ks) = k * pro ks := by
  show ks.foldl (· * ·) (1 * k) = _
  rw [pro_from, Int.one_mul]
theorem pro_pos : ∀ {ks : List Int}, (∀ k ∈ ks, 2 ≤ k) → 1 ≤ pro ks
  | [], _ => by decide
  | k :: ks, h => by
    rw [pro_cons]
    have a := h k (List.mem_cons_self ..)
    have b := pro_pos (ks := ks) fun x hx => h x (List.mem_cons_of_mem _ hx)
    have := Int.mul_le_mul a b (by decide) (by omega)
    omega
theorem once_mul {k m : Int} (h : 2 ≤ k) : once (k * m) k = m := by
  unfold once
  rw [Int.mul_ediv_cancel_left m (by omega), Int.mul_emod_right, Int.add_zero]
/-- a multiple of the product -/
theorem sq_mul : ∀ (ks : List Int) (m : Int), (∀ k ∈ ks, 2 ≤ k) → sq (pro ks * m) ks = m
  | [], m, _ => Int.one_mul m
  | k :: ks, m, h => by
    rw [sq_cons, pro_cons, Int.mul_assoc, once_mul (h k (List.mem_cons_self ..))]
    exact sq_mul ks m fun x hx => h x (List.mem_cons_of_mem _ hx)
theorem once_grow {n k : Int} (hk : 2 ≤ k) (h0 : 0 ≤ n) : n ≤ k * once n k := by
  unfold once
  have e := Int.mul_ediv_add_emod n k
  have m0 := Int.emod_nonneg n (by omega : k ≠ 0)
  have : n % k ≤ k * (n % k) := by
    have := Int.mul_le_mul_of_nonneg_right (show 1 ≤ k by omega) m0
    rwa [Int.one_mul] at this
  rw [Int.mul_add]
  omega
/-- what is longer than the product isn't single -/
theorem sq_grow : ∀ (ks : List Int) (n : Int), (∀ k ∈ ks, 2 ≤ k) → 0 ≤ n → n ≤ pro ks * sq n ks
  | [], n, _, _ => Int.le_of_eq (Int.one_mul n).symm
  | k :: ks, n, h, h0 => by
    have k2 := h k (List.mem_cons_self ..)
    have hs : ∀ x ∈ ks, 2 ≤ x := fun x hx => h x (List.mem_cons_of_mem _ hx)
    have a := once_grow k2 h0
    have b := sq_grow ks (once n k) hs (once_nonneg k2 h0)
    rw [sq_cons, pro_cons, Int.mul_assoc]
    exact Int.le_trans a (Int.mul_le_mul_of_nonneg_left b (by omega))
theorem sq_two {ks : List Int} {n : Int} (h : ∀ k ∈ ks, 2 ≤ k) (h0 : pro ks < n) : 2 ≤ sq n ks := by
  have p := pro_pos h
  have g := sq_grow ks n h (by omega)
  by_cases c : sq n ks ≤ 1
  · have := Int.mul_le_mul_of_nonneg_left c (show 0 ≤ pro ks by omega)
    omega
  · omega
/-- the first place where they part -/
def parts : Int → Int → List Int → List Int → Option Int
  | p, b, k :: ks, l :: ls => if k ≠ l then some (p - b * (min k l - 1)) else parts p (b * k) ks ls
  | _, _, _, _ => none
theorem less_single {k : Int} {ks : List Int} (hk : 2 ≤ k) (h : ∀ x ∈ ks, 2 ≤ x) : sq (pro (k :: ks) - (k - 1)) (k :: ks) = 1 := by
  rw [sq_cons, pro_cons]
  have e : k * pro ks - (k - 1) = 1 + k * (pro ks - 1) := by
    rw [Int.mul_sub, Int.mul_one]
    omega
  have o : once (k * pro ks - (k - 1)) k = pro ks * 1 := by
    unfold once
    rw [e, Int.add_mul_ediv_left _ _ (by omega : k ≠ 0), Int.add_mul_emod_self_left, Int.ediv_eq_zero_of_lt (by decide) (by omega), Int.emod_eq_of_lt (by decide) (by omega)]
    omega
  rw [o, sq_mul ks 1 h]
theorem more_not {k l : Int} {ls : List Int} (hk : 2 ≤ k) (kl : k < l) (h : ∀ x ∈ ls, 2 ≤ x) : 2 ≤ sq (pro (l :: ls) - (k - 1)) (l :: ls) := by
  rw [sq_cons, pro_cons]
  have e : l * pro ls - (k - 1) = (l - k + 1) + l * (pro ls - 1) := by
    rw [Int.mul_sub, Int.mul_one]
    omega
  have o : once (l * pro ls - (k - 1)) l = pro ls + (l - k) := by
    unfold once
    rw [e, Int.add_mul_ediv_left _ _ (by omega : l ≠ 0), Int.add_mul_emod_self_left, Int.ediv_eq_zero_of_lt (by omega) (by omega), Int.emod_eq_of_lt (by omega) (by omega)]
    omega
  rw [o]
  exact sq_two h (by omega)
/-- lists with one product: they part exactly if they are different -/
theorem parts_ok : ∀ (ks ls : List Int) (b : Int), (∀ k ∈ ks, 2 ≤ k) → (∀ k ∈ ls, 2 ≤ k) → pro ks = pro ls → 1 ≤ b →
    (parts (b * pro ks) b ks ls = none ↔ ks = ls) ∧ ∀ r, parts (b * pro ks) b ks ls = some r → ∃ m, r = b * m ∧ 1 ≤ m ∧ sq m ks ≠ sq m ls
  | [], [], _, _, _, _, _ => ⟨⟨fun _ => rfl, fun _ => rfl⟩, fun _ h => nomatch h⟩
  | [], l :: ls, _, _, h2, e, _ => by
    exfalso
    rw [pro_cons] at e
    have a := h2 l (List.mem_cons_self ..)
    have p := pro_pos fun x hx => h2 x (List.mem_cons_of_mem _ hx)
    have := Int.mul_le_mul a p (by decide) (by omega)
    rw [← e] at this
    exact absurd this (by decide)
  | k :: ks, [], _, h1, _, e, _ => by
    exfalso
    rw [pro_cons] at e
    have a := h1 k (List.mem_cons_self ..)
    have p := pro_pos fun x hx => h1 x (List.mem_cons_of_mem _ hx)
    have := Int.mul_le_mul a p (by decide) (by omega)
    rw [e] at this
    exact absurd this (by decide)
  | k :: ks, l :: ls, b, h1, h2, e, hb => by
    have k2 := h1 k (List.mem_cons_self ..)
    have l2 := h2 l (List.mem_cons_self ..)
    have hk : ∀ x ∈ ks, 2 ≤ x := fun x hx => h1 x (List.mem_cons_of_mem _ hx)
    have hl : ∀ x ∈ ls, 2 ≤ x := fun x hx => h2 x (List.mem_cons_of_mem _ hx)
    unfold parts
    by_cases c : k = l
    · subst c
      rw [if_neg (fun z => z rfl)]
      have e2 : pro ks = pro ls := by
        rw [pro_cons, pro_cons] at e
        exact Int.eq_of_mul_eq_mul_left (by omega) e
      have bk : 1 ≤ b * k := by
        have := Int.mul_le_mul hb (show 1 ≤ k by omega) (by decide) (by omega)
        omega
      have ih := parts_ok ks ls (b * k) hk hl e2 bk
      rw [pro_cons, ← Int.mul_assoc]
      refine ⟨⟨fun z => by rw [ih.1.mp z], fun z => ih.1.mpr (List.cons.inj z).2⟩, fun r hr => ?_⟩
      obtain ⟨m, em, m1, d⟩ := ih.2 r hr
      refine ⟨k * m, by rw [em, Int.mul_assoc], ?_, ?_⟩
      · have := Int.mul_le_mul (show 1 ≤ k by omega) m1 (by decide) (by omega)
        omega
      · rw [sq_cons, sq_cons, once_mul k2]
        exact d
    · rw [if_pos c]
      refine ⟨⟨fun z => (nomatch z), fun z => absurd (List.cons.inj z).1 c⟩, fun r hr => ?_⟩
      have er : r = b * (pro (k :: ks) - (min k l - 1)) := by
        rw [Int.mul_sub]
        exact (Option.some.inj hr).symm
      have pk := pro_pos hk
      have grow : k - 1 < pro (k :: ks) := by
        rw [pro_cons]
        have := Int.mul_le_mul_of_nonneg_left pk (show 0 ≤ k by omega)
        omega
      refine ⟨_, er, ?_, ?_⟩
      · omega
      · rcases Int.lt_or_gt_of_ne c with d | d
        · rw [show min k l = k by omega, less_single k2 hk, e]
          have := more_not k2 d hl
          omega
        · rw [show min k l = l by omega]
          have a := more_not l2 d hk
          have b := less_single l2 hl
          rw [← e] at b
          omega
end Sq

set_option Elab.async false
set_option linter.all false
set_option maxHeartbeats 1000000
/-! The runs that a list makes single: the greatest two, and how many runs one replacement makes equal. -/
namespace Sq
def Single (ks : List Int) (n : Int) : Prop := 1 ≤ n ∧ sq n ks = 1
theorem single_top {ks : List Int} (h : ∀ k ∈ ks, 2 ≤ k) : Single ks (pro ks) := by
  refine ⟨pro_pos h, ?_⟩
  have := sq_mul ks 1 h
  rwa [Int.mul_one] at this
theorem single_le {ks : List Int} {n : Int} (h : ∀ k ∈ ks, 2 ≤ k) (s : Single ks n) : n ≤ pro ks := by
  by_cases c : n ≤ pro ks
  · exact c
  · have := sq_two h (show pro ks < n by omega)
    have e := s.2
    omega
/-- the second greatest one -/
theorem single_next {k : Int} {ks : List Int} (hk : 2 ≤ k) (h : ∀ x ∈ ks, 2 ≤ x) : Single (k :: ks) (pro (k :: ks) - (k - 1)) := by
  refine ⟨?_, less_single hk h⟩
  have p := pro_pos h
  rw [pro_cons]
  have := Int.mul_le_mul_of_nonneg_left p (show 0 ≤ k by omega)
  omega
theorem single_gap {k n : Int} {ks : List Int} (hk : 2 ≤ k) (h : ∀ x ∈ ks, 2 ≤ x) (s : Single (k :: ks) n) (lt : n < pro (k :: ks)) : n ≤ pro (k :: ks) - (k - 1) := by
  by_cases c : n ≤ pro (k :: ks) - (k - 1)
  · exact c
  · exfalso
    rw [pro_cons] at lt c
    have e : n = (n - k * (pro ks - 1)) + k * (pro ks - 1) := by omega
    have m : k * (pro ks - 1) = k * pro ks - k := by rw [Int.mul_sub, Int.mul_one]
    have o : once n k = pro ks - 1 + (n - k * (pro ks - 1)) := by
      unfold once
      rw [e, Int.add_mul_ediv_left _ _ (by omega : k ≠ 0), Int.add_mul_emod_self_left, Int.ediv_eq_zero_of_lt (by omega) (by omega), Int.emod_eq_of_lt (by omega) (by omega)]
      omega
    have b := sq_two (n := once n k) h (by omega)
    have s2 := s.2
    rw [sq_cons] at s2
    omega
theorem once_pos {k n : Int} (hk : 2 ≤ k) (h1 : 1 ≤ n) : 1 ≤ once n k := by
  by_cases c : 1 ≤ once n k
  · exact c
  · have g := once_grow hk (show 0 ≤ n by omega)
    have z := once_nonneg hk (show 0 ≤ n by omega)
    rw [show once n k = 0 by omega, Int.mul_zero] at g
    omega
/-- what is single behind the first replacement -/
theorem single_step {k n : Int} {ks : List Int} (hk : 2 ≤ k) (h1 : 1 ≤ n) : Single (k :: ks) n ↔ Single ks (once n k) := by
  constructor
  · intro s
    exact ⟨once_pos hk h1, s.2⟩
  · intro s
    exact ⟨h1, s.2⟩
/-- all runs of one length behind a replacement -/
theorem once_all {k m n : Int} (hk : 2 ≤ k) (h1 : 1 ≤ n) : once n k = m ↔ ∃ r, 0 ≤ r ∧ r < k ∧ r ≤ m ∧ n = k * (m - r) + r := by
  constructor
  · intro e
    have d := Int.mul_ediv_add_emod n k
    have r0 := Int.emod_nonneg n (by omega : k ≠ 0)
    have r1 := Int.emod_lt_of_pos n (by omega : 0 < k)
    have q0 := Int.ediv_nonneg (by omega : 0 ≤ n) (by omega : 0 ≤ k)
    unfold once at e
    refine ⟨n % k, r0, r1, by omega, ?_⟩
    rw [show m - n % k = n / k by omega]
    omega
  · rintro ⟨r, r0, r1, rm, e⟩
    unfold once
    rw [e, Int.add_comm (k * (m - r)) r, Int.add_mul_ediv_left _ _ (by omega : k ≠ 0), Int.add_mul_emod_self_left, Int.ediv_eq_zero_of_lt r0 r1, Int.emod_eq_of_lt r0 r1]
    omega
/-- two lists with the same single runs are equal -/
theorem single_same : ∀ (ks ls : List Int), (∀ k ∈ ks, 2 ≤ k) → (∀ k ∈ ls, 2 ≤ k) → (∀ n, Single ks n ↔ Single ls n) → ks = ls
  | [], [], _, _, _ => rfl
  | [], l :: ls, _, h2, e => by
    exfalso
    have a := single_le (ks := []) (fun _ z => absurd z List.not_mem_nil) ((e _).mpr (single_top h2))
    have p := pro_pos (ks := ls) fun x hx => h2 x (List.mem_cons_of_mem _ hx)
    have l2 := h2 l (List.mem_cons_self ..)
    rw [pro_cons] at a
    have := Int.mul_le_mul l2 p (by decide) (by omega)
    have z : pro [] = 1 := rfl
    omega
  | k :: ks, [], h1, _, e => by
    exfalso
    have a := single_le (ks := []) (fun _ z => absurd z List.not_mem_nil) ((e _).mp (single_top h1))
    have p := pro_pos (ks := ks) fun x hx => h1 x (List.mem_cons_of_mem _ hx)
    have k2 := h1 k (List.mem_cons_self ..)
    rw [pro_cons] at a
    have := Int.mul_le_mul k2 p (by decide) (by omega)
    have z : pro [] = 1 := rfl
    omega
  | k :: ks, l :: ls, h1, h2, e => by
    have k2 := h1 k (List.mem_cons_self ..)
    have l2 := h2 l (List.mem_cons_self ..)
    have hk : ∀ x ∈ ks, 2 ≤ x := fun x hx => h1 x (List.mem_cons_of_mem _ hx)
    have hl : ∀ x ∈ ls, 2 ≤ x := fun x hx => h2 x (List.mem_cons_of_mem _ hx)
    have t : pro (k :: ks) = pro (l :: ls) := by
      have a := single_le h2 ((e _).mp (single_top h1))
      have b := single_le h1 ((e _).mpr (single_top h2))
      omega
    have kl : k = l := by
      have a := single_gap l2 hl ((e _).mp (single_next k2 hk)) (by omega)
      have b := single_gap k2 hk ((e _).mpr (single_next l2 hl)) (by omega)
      omega
    subst kl
    congr 1
    refine single_same ks ls hk hl fun m => ?_
    constructor
    · intro s
      have n1 : 1 ≤ k * m := by
        have := Int.mul_le_mul (show 1 ≤ k by omega) s.1 (by decide) (by omega)
        omega
      have o := once_mul (k := k) (m := m) k2
      have := (single_step (ks := ls) k2 n1).mp ((e _).mp ((single_step (ks := ks) k2 n1).mpr (by rw [o]; exact s)))
      rwa [o] at this
    · intro s
      have n1 : 1 ≤ k * m := by
        have := Int.mul_le_mul (show 1 ≤ k by omega) s.1 (by decide) (by omega)
        omega
      have o := once_mul (k := k) (m := m) k2
      have := (single_step (ks := ks) k2 n1).mp ((e _).mpr ((single_step (ks := ls) k2 n1).mpr (by rw [o]; exact s)))
      rwa [o] at this
end Sq

set_option Elab.async false
set_option linter.all false
set_option maxHeartbeats 1000000
/-! Reading a list back: one step. -/
namespace Sq
theorem len_le_of {α : Type} [DecidableEq α] : ∀ {A B : List α}, A.Nodup → (∀ x ∈ A, x ∈ B) → A.length ≤ B.length
  | [], B, _, _ => Nat.zero_le _
  | a :: A, B, nd, sub => by
    have nd' := List.nodup_cons.mp nd
    have h := len_le_of (A := A) (B := B.erase a) nd'.2 fun x hx => (List.mem_erase_of_ne (fun z : x = a => nd'.1 (by rw [← z]; exact hx))).mpr (sub x (List.mem_cons_of_mem _ hx))
    have l := List.length_erase_of_mem (sub a (List.mem_cons_self ..))
    have p : 0 < B.length := List.length_pos_of_mem (sub a (List.mem_cons_self ..))
    rw [List.length_cons]
    omega
theorem sub_all {α : Type} [DecidableEq α] : ∀ {A B : List α}, A.Nodup → (∀ x ∈ A, x ∈ B) → B.length ≤ A.length → ∀ x ∈ B, x ∈ A
  | [], B, _, _, l, x, hx => by
    have := List.length_pos_of_mem hx
    rw [List.length_nil] at l
    omega
  | a :: A, B, nd, sub, l, x, hx => by
    have nd' := List.nodup_cons.mp nd
    by_cases c : x = a
    · rw [c]
      exact List.mem_cons_self ..
    · have p : 0 < B.length := List.length_pos_of_mem hx
      have le := List.length_erase_of_mem (sub a (List.mem_cons_self ..))
      rw [List.length_cons] at l
      exact List.mem_cons_of_mem _ (sub_all (A := A) (B := B.erase a) nd'.2 (fun y hy => (List.mem_erase_of_ne (fun z : y = a => nd'.1 (by rw [← z]; exact hy))).mpr (sub y (List.mem_cons_of_mem _ hy))) (by omega) x ((List.mem_erase_of_ne c).mpr hx))
/-- the runs of one length behind a replacement, and all of them -/
def manyOne (k m : Int) : Nat := (min (k - 1) m).toNat + 1
def backOne (k m : Int) : List Int := (List.range (manyOne k m)).map fun r : Nat => k * (m - r) + r
def backAll (k : Int) (after : List Int) : List Int := after.flatMap (backOne k)
theorem backAll_len (k : Int) : ∀ after : List Int, (backAll k after).length = (after.map (manyOne k)).sum
  | [] => rfl
  | m :: after => by
    show ((m :: after).flatMap (backOne k)).length = _
    rw [List.flatMap_cons, List.length_append, List.map_cons, List.sum_cons]
    have := backAll_len k after
    unfold backAll at this
    rw [this]
    unfold backOne
    rw [List.length_map, List.length_range]
theorem mem_backOne {k m n : Int} (hk : 2 ≤ k) (hm : 1 ≤ m) : n ∈ backOne k m ↔ 1 ≤ n ∧ once n k = m := by
  unfold backOne manyOne
  rw [List.mem_map]
  constructor
  · rintro ⟨r, hr, e⟩
    have hr' := List.mem_range.mp hr
    have rb : (r : Int) < k ∧ (r : Int) ≤ m := by omega
    have pos : 1 ≤ n := by
      by_cases c : (r : Int) = m
      · have z : m - (r : Int) = 0 := by omega
        rw [z, Int.mul_zero] at e
        omega
      · have := Int.mul_le_mul_of_nonneg_left (show (1 : Int) ≤ m - r by omega) (show 0 ≤ k by omega)
        omega
    exact ⟨pos, (once_all hk pos).mpr ⟨r, by omega, rb.1, rb.2, e.symm⟩⟩
  · rintro ⟨h1, h2⟩
    obtain ⟨r, r0, r1, rm, e⟩ := (once_all hk h1).mp h2
    refine ⟨r.toNat, List.mem_range.mpr (by omega), ?_⟩
    rw [show ((r.toNat : Nat) : Int) = r by omega]
    exact e.symm
theorem mem_backAll {k n : Int} {after : List Int} (hk : 2 ≤ k) (hm : ∀ m ∈ after, 1 ≤ m) : n ∈ backAll k after ↔ 1 ≤ n ∧ once n k ∈ after := by
  unfold backAll
  rw [List.mem_flatMap]
  constructor
  · rintro ⟨m, h1, h2⟩
    obtain ⟨a, b⟩ := (mem_backOne hk (hm m h1)).mp h2
    exact ⟨a, b ▸ h1⟩
  · rintro ⟨h1, h2⟩
    exact ⟨_, h2, (mem_backOne hk (hm _ h2)).mpr ⟨h1, rfl⟩⟩
theorem backAll_nodup {k : Int} (hk : 2 ≤ k) : ∀ {after : List Int}, (∀ m ∈ after, 1 ≤ m) → after.Nodup → (backAll k after).Nodup
  | [], _, _ => List.nodup_nil
  | m :: after, hm, nd => by
    have nd' := List.nodup_cons.mp nd
    have ih := backAll_nodup hk (after := after) (fun x hx => hm x (List.mem_cons_of_mem _ hx)) nd'.2
    have m1 := hm m (List.mem_cons_self ..)
    show ((m :: after).flatMap (backOne k)).Nodup
    rw [List.flatMap_cons]
    refine List.nodup_append.mpr ⟨?_, ih, fun x hx y hy e => ?_⟩
    · unfold backOne
      refine List.Pairwise.map _ (fun (r s : Nat) h => ?_) List.nodup_range
      intro z
      apply h
      have e1 : k * (m - (r : Int)) + r = k * m - (k - 1) * r := by
        rw [Int.mul_sub, Int.sub_mul, Int.one_mul]
        omega
      have e2 : k * (m - (s : Int)) + s = k * m - (k - 1) * s := by
        rw [Int.mul_sub, Int.sub_mul, Int.one_mul]
        omega
      rw [e1, e2] at z
      have z2 : (k - 1) * (r : Int) = (k - 1) * (s : Int) := by omega
      have := Int.eq_of_mul_eq_mul_left (by omega) z2
      omega
    · subst e
      have a := ((mem_backOne hk m1).mp hx).2
      have b := ((mem_backAll hk (fun x hx => hm x (List.mem_cons_of_mem _ hx))).mp hy).2
      rw [a] at b
      exact nd'.1 b
/-- the step that reads one replacement -/
theorem step_sound {k : Int} {P after rest : List Int} (hk : 2 ≤ k) (pos : ∀ n ∈ P, 1 ≤ n) (nd : P.Nodup) (img : ∀ m, m ∈ after ↔ ∃ n ∈ P, once n k = m) (cnt : (after.map (manyOne k)).sum = P.length)
    (ih : ∀ n, 1 ≤ n → (n ∈ after ↔ Single rest n)) (n : Int) (h1 : 1 ≤ n) : n ∈ P ↔ Single (k :: rest) n := by
  have apos : ∀ m ∈ after, 1 ≤ m := fun m hm => by
    obtain ⟨x, hx, e⟩ := (img m).mp hm
    rw [← e]
    exact once_pos hk (pos x hx)
  have sub : ∀ x ∈ P, x ∈ backAll k after := fun x hx => (mem_backAll hk apos).mpr ⟨pos x hx, (img _).mpr ⟨x, hx, rfl⟩⟩
  have all := sub_all nd sub (by rw [backAll_len, cnt]; exact Nat.le_refl _)
  rw [single_step hk h1, ← ih _ (once_pos hk h1)]
  constructor
  · exact fun h => (img _).mpr ⟨n, h, rfl⟩
  · exact fun h => all n ((mem_backAll hk apos).mpr ⟨h1, h⟩)
theorem step_full {k : Int} {P after rest : List Int} (hk : 2 ≤ k) (pos : ∀ n ∈ P, 1 ≤ n) (nd : P.Nodup) (and' : after.Nodup) (img : ∀ m, m ∈ after ↔ ∃ n ∈ P, once n k = m) (full : ∀ n, 1 ≤ n → (n ∈ P ↔ Single (k :: rest) n)) :
    (after.map (manyOne k)).sum = P.length ∧ ∀ n, 1 ≤ n → (n ∈ after ↔ Single rest n) := by
  have apos : ∀ m ∈ after, 1 ≤ m := fun m hm => by
    obtain ⟨x, hx, e⟩ := (img m).mp hm
    rw [← e]
    exact once_pos hk (pos x hx)
  have two : ∀ m, 1 ≤ m → (m ∈ after ↔ Single rest m) := fun m m1 => by
    constructor
    · intro h
      obtain ⟨x, hx, e⟩ := (img m).mp h
      have := (single_step hk (pos x hx)).mp ((full x (pos x hx)).mp hx)
      rwa [e] at this
    · intro s
      have n1 : 1 ≤ k * m := by
        have := Int.mul_le_mul (show 1 ≤ k by omega) m1 (by decide) (by omega)
        omega
      have o := once_mul (k := k) (m := m) hk
      exact (img m).mpr ⟨k * m, (full _ n1).mpr ((single_step hk n1).mpr (by rw [o]; exact s)), o⟩
  refine ⟨?_, two⟩
  rw [← backAll_len]
  refine Nat.le_antisymm (len_le_of (backAll_nodup hk apos and') fun x hx => ?_) (len_le_of nd fun x hx => (mem_backAll hk apos).mpr ⟨pos x hx, (img _).mpr ⟨x, hx, rfl⟩⟩)
  obtain ⟨x1, x2⟩ := (mem_backAll hk apos).mp hx
  exact (full x x1).mpr ((single_step hk x1).mpr ((two _ (once_pos hk x1)).mp x2))
end Sq

set_option Elab.async false
set_option linter.all false
set_option maxHeartbeats 1000000
/-! What list_of keeps from turn to turn. -/
namespace Sq
/-- a list that is right for these runs -/
def Right (S row : List Int) : Prop := (∀ k ∈ row, 2 ≤ k) ∧ ∀ n, 1 ≤ n → (n ∈ S ↔ Single row n)
theorem right_cong {S T row : List Int} (e : ∀ n, n ∈ S ↔ n ∈ T) : Right S row ↔ Right T row :=
  ⟨fun h => ⟨h.1, fun n h1 => (e n).symm.trans (h.2 n h1)⟩, fun h => ⟨h.1, fun n h1 => (e n).trans (h.2 n h1)⟩⟩
theorem right_uniq {S a b : List Int} (ha : Right S a) (hb : Right S b) : a = b :=
  single_same a b ha.1 hb.1 fun n => by
    constructor
    · exact fun s => (hb.2 n s.1).mp ((ha.2 n s.1).mpr s)
    · exact fun s => (ha.2 n s.1).mp ((hb.2 n s.1).mpr s)
/-- the first number of it, from the greatest two -/
theorem right_first {ps rest : List Int} {x y : Int} {zs : List Int} (e : ps = zs ++ [y, x]) (up : ps.Pairwise (· < ·)) (pos : ∀ n ∈ ps, 1 ≤ n) (R : Right ps rest) : ∃ r, rest = (x - y + 1) :: r := by
  have hx : x ∈ ps := by rw [e]; simp
  have hy : y ∈ ps := by rw [e]; simp
  have yx : y < x := by
    rw [e] at up
    have := (List.pairwise_append.mp up).2.1
    exact (List.pairwise_cons.mp this).1 x List.mem_cons_self
  have top : ∀ n ∈ ps, n = x ∨ n ≤ y := fun n hn => by
    rw [e] at hn up
    rcases List.mem_append.mp hn with z | z
    · exact .inr (Int.le_of_lt ((List.pairwise_append.mp up).2.2 n z y List.mem_cons_self))
    · simp only [List.mem_cons, List.not_mem_nil, or_false] at z
      rcases z with rfl | rfl
      · exact .inr (Int.le_refl _)
      · exact .inl rfl
  match rest, R with
  | [], R =>
    exfalso
    have a := ((R.2 x (pos x hx)).mp hx).2
    have b := ((R.2 y (pos y hy)).mp hy).2
    have a : x = 1 := a
    have b : y = 1 := b
    omega
  | k :: r, R =>
    have k2 := R.1 k List.mem_cons_self
    have hr : ∀ q ∈ r, 2 ≤ q := fun q hq => R.1 q (List.mem_cons_of_mem _ hq)
    have st := single_top R.1
    have sn := single_next k2 hr
    have m1 := (R.2 _ st.1).mpr st
    have m2 := (R.2 _ sn.1).mpr sn
    have sx := (R.2 x (pos x hx)).mp hx
    have sy := (R.2 y (pos y hy)).mp hy
    have lx := single_le R.1 sx
    have ex : x = pro (k :: r) := by
      rcases top _ m1 with z | z <;> omega
    have gy := single_gap k2 hr sy (by omega)
    have ey : y = pro (k :: r) - (k - 1) := by
      rcases top _ m2 with z | z <;> omega
    exact ⟨r, by rw [show x - y + 1 = k by omega]⟩
theorem right_step {k : Int} {ps after r : List Int} (hk : 2 ≤ k) (pos : ∀ n ∈ ps, 1 ≤ n) (nd : ps.Nodup) (nda : after.Nodup) (img : ∀ m, m ∈ after ↔ ∃ n ∈ ps, once n k = m) (cnt : (after.map (manyOne k)).sum = ps.length) : Right ps (k :: r) ↔ Right after r := by
  constructor
  · intro R
    exact ⟨fun q hq => R.1 q (List.mem_cons_of_mem _ hq), (step_full hk pos nd nda img R.2).2⟩
  · intro R
    refine ⟨fun q hq => ?_, fun n h1 => step_sound hk pos nd img cnt R.2 n h1⟩
    rcases List.mem_cons.mp hq with z | z
    · rw [z]; exact hk
    · exact R.1 q z
theorem right_none {k : Int} {ps after r : List Int} (hk : 2 ≤ k) (pos : ∀ n ∈ ps, 1 ≤ n) (nd : ps.Nodup) (nda : after.Nodup) (img : ∀ m, m ∈ after ↔ ∃ n ∈ ps, once n k = m) (cnt : (after.map (manyOne k)).sum ≠ ps.length) : ¬ Right ps (k :: r) :=
  fun R => cnt (step_full hk pos nd nda img R.2).1
theorem right_one (rest : List Int) : Right [1] rest ↔ rest = [] := by
  have h : Right [1] [] := ⟨fun k z => absurd z List.not_mem_nil, fun n h1 => by
    rw [List.mem_singleton]
    exact ⟨fun e => ⟨h1, e⟩, fun s => s.2⟩⟩
  exact ⟨fun R => right_uniq R h, fun e => e ▸ h⟩
theorem right_few {ps rest : List Int} (l : ps.length ≤ 1) (ne : ps ≠ [1]) : ¬ Right ps rest := fun R => by
  have st := single_top R.1
  have m1 := (R.2 _ st.1).mpr st
  match rest, R, m1 with
  | [], R, m1 =>
    have m1 : (1 : Int) ∈ ps := m1
    match ps, l, m1 with
    | [z], _, m1 =>
      have := List.mem_singleton.mp m1
      exact ne (by rw [this])
  | k :: r, R, m1 =>
    have k2 := R.1 k List.mem_cons_self
    have hr : ∀ q ∈ r, 2 ≤ q := fun q hq => R.1 q (List.mem_cons_of_mem _ hq)
    have sn := single_next k2 hr
    have m2 := (R.2 _ sn.1).mpr sn
    match ps, l, m1, m2 with
    | [z], _, m1, m2 =>
      have a := List.mem_singleton.mp m1
      have b := List.mem_singleton.mp m2
      omega
theorem many_two {k : Int} (hk : 2 ≤ k) : ∀ {after : List Int}, (∀ m ∈ after, 1 ≤ m) → 2 * after.length ≤ (after.map (manyOne k)).sum
  | [], _ => Nat.le_refl _
  | m :: after, h => by
    have hm := h m List.mem_cons_self
    have ih := many_two hk (after := after) fun q hq => h q (List.mem_cons_of_mem _ hq)
    rw [List.map_cons, List.sum_cons, List.length_cons]
    have : 2 ≤ manyOne k m := by
      unfold manyOne
      omega
    omega
end Sq

set_option Elab.async false
set_option linter.all false
/-! A statement told apart from what follows. -/
namespace Sq
open PySem PySem.Spec PyProof.Rows L2
theorem seqNx {t u : TS} {D : Ends} {r : VK} {b c : L2.St → Hp → Prop} {σ : L2.St} {H : Hp} (h : tSeq t u D σ H) : Ends.nx { nx := tSeq t u D, rt := r, bk := b, ct := c } σ H := h
theorem tellSeq {t u : TS} {D : Ends} {σ : L2.St} {H : Hp} (T : L2.St → Hp → Prop) (h : ∀ N : L2.St → Hp → Prop, (∀ σ2 H2, T σ2 H2 → N σ2 H2) → t { D with nx := N } σ H) (hT : ∀ σ2 H2, T σ2 H2 → u D σ2 H2) : tSeq t u D σ H := h (u D) hT
theorem tellNx {t u : TS} {D : Ends} {r : VK} {b c : L2.St → Hp → Prop} {σ : L2.St} {H : Hp} (T : L2.St → Hp → Prop) (h : ∀ N : L2.St → Hp → Prop, (∀ σ2 H2, T σ2 H2 → N σ2 H2) → t { D with nx := N } σ H) (hT : ∀ σ2 H2, T σ2 H2 → u D σ2 H2) : Ends.nx { nx := tSeq t u D, rt := r, bk := b, ct := c } σ H := h (u D) hT
end Sq
namespace Sq
open PySem PySem.Spec PyProof.Rows L2
/-- for .. in range(a if c else b) -/
theorem seq_for_if {c : TT} {a b : Int} {g : TG} {tb u : TS} {D : Ends} {σ : L2.St} {H : Hp} (k : Bool) (h : ∀ Q' : Bool → Hp → Prop, Q' k H → c σ H Q') (ba : -(2 ^ 62) ≤ a ∧ a < 2 ^ 62) (bb : -(2 ^ 62) ≤ b ∧ b < 2 ^ 62)
    (q : tFor (fun _ H R => R (Itr 0 (if k = true then a else b).toNat) H) g tb { D with nx := u D } σ H) : tSeq (tFor (iRng1 (tCons (tIf c (tC (.int a)) (tC (.int b))) tNil)) g tb) u D σ H := by
  cases k with
  | true => exact h _ ⟨a, rfl, ba.1, ba.2, q⟩
  | false => exact h _ ⟨b, rfl, bb.1, bb.2, q⟩
theorem atI_last2 {α : Type} (xs : List α) (v w : α) : atI (xs ++ [v, w]) (-2) = some v := by
  have hl : (xs ++ [v, w]).length = xs.length + 2 := by simp
  have e : ixN (xs ++ [v, w]).length (-2) = some xs.length := by
    unfold ixN
    rw [hl, if_neg (by decide), if_pos (by omega)]
    congr 1
    omega
  unfold atI
  rw [e]
  show (xs ++ [v, w])[xs.length]? = some v
  simp
theorem cut_take (xs : List V) (n : Nat) (h : n ≤ xs.length) : cutV xs none (some (n : Int)) = xs.take n := by
  unfold cutV
  rw [HT.sIx_nat, HT.sIx_none, List.drop_zero, Nat.min_eq_left h, Nat.sub_zero]
end Sq

set_option Elab.async false
set_option linter.all false
set_option maxHeartbeats 1000000
/-! Lists of replacements in the heap; slices of them. -/
namespace Sq
open PySem PySem.Spec PyProof.Rows L2
/-- replacements, not too great -/
def Rpl (ks : List Int) : Prop := ∀ k ∈ ks, 2 ≤ k ∧ k < 1073741824
theorem Rpl.low {ks : List Int} (h : Rpl ks) : lowAt ks = none := (lowAt_take ks ks.length (by rw [List.take_length]; exact fun k hk => (h k hk).1)).2 (Nat.le_refl _)
theorem Rpl.two {ks : List Int} (h : Rpl ks) : ∀ k ∈ ks, 2 ≤ k := fun k hk => (h k hk).1
theorem Rpl.app {ks ls : List Int} (h : Rpl ks) (g : Rpl ls) : Rpl (ks ++ ls) := fun k hk => by
  rcases List.mem_append.mp hk with z | z
  · exact h k z
  · exact g k z
/-- a list of at most n replacements -/
def RL (H : Hp) (p : Addr) (n : Nat) : Prop := ∃ ks : List Int, H p = some (.lst (ks.map V.int)) ∧ ks.length ≤ n ∧ Rpl ks
theorem RL.same {H H' : Hp} {p : Addr} {n : Nat} (h : RL H p n) (s : Same H H') : RL H' p n := by
  obtain ⟨ks, g, l, r⟩ := h
  exact ⟨ks, s _ _ g, l, r⟩
theorem RL.le {H : Hp} {p : Addr} {n m : Nat} (h : RL H p n) (l : n ≤ m) : RL H p m := by
  obtain ⟨ks, g, l', r⟩ := h
  exact ⟨ks, g, Nat.le_trans l' l, r⟩
theorem cut_part (ks : List Int) (lo hi : Option Int) : ∃ ls : List Int, cutV (ks.map V.int) lo hi = ls.map V.int ∧ ls.length ≤ ks.length ∧ ∀ x ∈ ls, x ∈ ks := by
  refine ⟨(ks.drop (HT.sIx (ks.map V.int).length 0 lo)).take (HT.sIx (ks.map V.int).length (ks.map V.int).length hi - HT.sIx (ks.map V.int).length 0 lo), ?_, ?_, fun x hx => List.mem_of_mem_drop (List.mem_of_mem_take hx)⟩
  · unfold cutV
    rw [List.map_take, List.map_drop]
  · rw [List.length_take, List.length_drop]
    omega
theorem cut_first (ks : List Int) (n : Nat) (h : n ≤ 1000) : ∃ ls : List Int, cutV (ks.map V.int) none (some (n : Int)) = ls.map V.int ∧ ls.length ≤ n ∧ ∀ x ∈ ls, x ∈ ks := by
  by_cases c : n ≤ (ks.map V.int).length
  · refine ⟨ks.take n, ?_, ?_, fun x hx => List.mem_of_mem_take hx⟩
    · rw [cut_take _ n c, List.map_take]
    · rw [List.length_take]
      omega
  · obtain ⟨ls, a, b, d⟩ := cut_part ks none (some (n : Int))
    rw [List.length_map] at c
    exact ⟨ls, a, by omega, d⟩
/-- a slice, and a sum of two, as such lists -/
theorem rl_cut {H : Hp} {ks : List Int} {lo hi : Option Int} {p : Addr} {n : Nat} (l : ks.length ≤ n) (r : Rpl ks) : RL (upd H p (.lst (cutV (ks.map V.int) lo hi))) p n := by
  obtain ⟨ls, a, b, d⟩ := cut_part ks lo hi
  exact ⟨ls, by rw [a]; exact upd_same, Nat.le_trans b l, fun k hk => r k (d k hk)⟩
theorem cat_rl {H : Hp} {p q : Addr} {n m : Nat} {Q : VK} (hp : RL H p n) (hq : RL H q m) (hn : n + m ≤ 1000) (k : ∀ r H', H r = none → Same H H' → RL H' r (n + m) → Q (.ref r) H') : rCat (.ref p) (.ref q) H Q := by
  obtain ⟨ks, g1, l1, r1⟩ := hp
  obtain ⟨ls, g2, l2, r2⟩ := hq
  refine ⟨p, q, _, _, rfl, rfl, g1, g2, Nat.le_of_lt (small1000 (by rw [List.length_map, List.length_map]; omega)), fun r hr => k r _ hr (same_new hr) ⟨ks ++ ls, ?_, by rw [List.length_append]; omega, r1.app r2⟩⟩
  rw [upd_same, List.map_append]
theorem slice_rl {K : PySem.W.Frag} {H : Hp} {a : Addr} {n : Nat} {lo hi : Option Int} {Q : VK} (ha : RL H a n) (k : ∀ r H', H r = none → Same H H' → RL H' r n → Q (.ref r) H') : rSlL K (.ref a) lo hi H Q := by
  obtain ⟨ks, g, l, r⟩ := ha
  exact ⟨a, _, rfl, SqL.of g, fun p hp => k p _ hp (same_new hp) (rl_cut l r)⟩
theorem slice12_rl {K : PySem.W.Frag} {H : Hp} {a : Addr} {n : Nat} {Q : VK} (m : Nat) (hm : m ≤ 1000) (ha : RL H a n) (k : ∀ r H', H r = none → Same H H' → RL H' r m → Q (.ref r) H') : rSlL K (.ref a) none (some (m : Int)) H Q := by
  obtain ⟨ks, g, l, r⟩ := ha
  obtain ⟨ls, a', b, d⟩ := cut_first ks m hm
  exact ⟨a, _, rfl, SqL.of g, fun p hp => k p _ hp (same_new hp) ⟨ls, by rw [a']; exact upd_same, b, fun x hx => r x (d x hx)⟩⟩
theorem one_rl {H : Hp} {t : Addr} {k : Int} (h1 : 2 ≤ k) (h2 : k < 1073741824) : RL (upd H t (.lst [.int k])) t 1 := ⟨[k], upd_same, Nat.le_refl _, fun x hx => by rw [List.mem_singleton.mp hx]; exact ⟨h1, h2⟩⟩
theorem rev_rl {H : Hp} {p : Addr} {ms : List Int} {n : Nat} (l : ms.length ≤ n) (r : Rpl ms) : RL (upd H p (.lst (ms.map V.int).reverse)) p n :=
  ⟨ms.reverse, by rw [upd_same, List.map_reverse], by rw [List.length_reverse]; exact l, fun x hx => r x (List.mem_reverse.mp hx)⟩
theorem noPart {σ : L2.St} {H : Hp} {Q : Option Int → Hp → Prop} (h : Q none H) : tNoPart σ H Q := h
theorem wo_mon {G H : Hp} {D : Addr} (s : Same G H) : Same (wo G D) (wo H D) := fun b o e => by
  by_cases h : b = D
  · rw [h, wo_self] at e
    cases e
  · rw [wo_ne h] at e ⊢
    exact s b o e
end Sq

set_option Elab.async false
set_option linter.all false
/-! The best replacements, in plain Lean. -/
namespace Sq
def low (R : Int) : Int := (R + 3) / 2
def high (R : Int) : Int := (R + 4) / 2
def bests (R : Int) : List Int := if low R = high R then [low R] else [low R, high R]
def grow (R : Int) : Int := rw1 (low R) R
def up : Nat → Int → Int
  | 0, v => v
  | n + 1, v => grow (up n v)

theorem low_ge {R : Int} (h : 1 ≤ R) : 2 ≤ low R := by unfold low; omega
theorem low_le {R : Int} (h : 1 ≤ R) : low R ≤ R + 1 := by unfold low; omega
theorem high_le {R : Int} (h : 1 ≤ R) : high R ≤ R + 2 := by unfold high; omega

theorem rw1_low {k R : Int} (hk : k ≤ R + 2) : rw1 k R = (R + 3 - k) * k - 2 := by
  unfold rw1
  split
  · have e : k = R + 2 := by omega
    subst e
    rw [show R + 3 - (R + 2) = 1 by omega, Int.one_mul]
    omega
  · rfl

/-- how far a replacement stands from the middle decides -/
theorem sq_gap (R k : Int) : 4 * ((R + 3 - k) * k) = (R + 3) * (R + 3) - (2 * k - (R + 3)) * (2 * k - (R + 3)) := by
  simp only [Int.sub_mul, Int.mul_sub, Int.add_mul, Int.mul_add]
  have h1 := Int.mul_comm k R
  have h2 : 2 * k * (2 * k) = 4 * (k * k) := by
    rw [Int.mul_assoc, ← Int.mul_assoc k 2 k, Int.mul_comm k 2, Int.mul_assoc 2 k k]
    omega
  have h3 : 2 * k * R = 2 * (k * R) := Int.mul_assoc ..
  have h4 : R * (2 * k) = 2 * (k * R) := by rw [Int.mul_comm R, Int.mul_assoc]
  rw [h2, h3, h4, h1]
  omega

theorem one_sq {d : Int} (h : d = 0 ∨ d = 1 ∨ d = -1) : d * d ≤ 1 := by rcases h with h | h | h <;> subst h <;> decide
theorem two_sq {d : Int} (h : 2 ≤ d ∨ d ≤ -2) : 4 ≤ d * d := by
  rcases h with h | h
  · exact Int.mul_le_mul h h (by omega) (by omega)
  · have := Int.mul_le_mul (a := 2) (b := 2) (c := -d) (d := -d) (by omega) (by omega) (by omega) (by omega)
    rw [Int.neg_mul_neg] at this
    exact this

theorem rw1_le_grow {k R : Int} (hk : 2 ≤ k) (hR : 1 ≤ R) : rw1 k R ≤ grow R ∧ (rw1 k R = grow R ↔ k ∈ bests R) := by
  have l1 := low_ge hR
  have l2 := low_le hR
  have g : grow R = (R + 3 - low R) * low R - 2 := rw1_low (by omega)
  have e1 := sq_gap R (low R)
  by_cases c : k ≤ R + 2
  · have e := sq_gap R k
    rw [g, rw1_low c]
    by_cases ev : R % 2 = 0
    · -- the middle lies between two
      have d1 : 2 * low R - (R + 3) = -1 := by unfold low; omega
      have ne : low R ≠ high R := by unfold low high; omega
      have mem : k ∈ bests R ↔ (k = low R ∨ k = high R) := by
        unfold bests
        rw [if_neg ne]
        simp
      rw [d1] at e1
      by_cases m : k = low R ∨ k = high R
      · have d2 : 2 * k - (R + 3) = -1 ∨ 2 * k - (R + 3) = 1 := by unfold low high at m; omega
        have e2 : (2 * k - (R + 3)) * (2 * k - (R + 3)) = 1 := by rcases d2 with d2 | d2 <;> rw [d2] <;> rfl
        rw [e2] at e
        exact ⟨by omega, fun _ => mem.mpr m, fun _ => by omega⟩
      · have d2 : 2 ≤ 2 * k - (R + 3) ∨ 2 * k - (R + 3) ≤ -2 := by unfold low high at m; omega
        have e2 := two_sq d2
        exact ⟨by omega, fun z => by omega, fun z => absurd (mem.mp z) m⟩
    · have d1 : 2 * low R - (R + 3) = 0 := by unfold low; omega
      have eq : low R = high R := by unfold low high; omega
      have mem : k ∈ bests R ↔ k = low R := by
        unfold bests
        rw [if_pos eq]
        simp
      rw [d1] at e1
      by_cases m : k = low R
      · subst m
        exact ⟨by omega, fun _ => mem.mpr rfl, fun _ => by omega⟩
      · have d2 : 2 ≤ 2 * k - (R + 3) ∨ 2 * k - (R + 3) ≤ -2 := by unfold low at m; omega
        have e2 := two_sq d2
        exact ⟨by omega, fun z => by omega, fun z => absurd (mem.mp z) m⟩
  · have e2 : rw1 k R = R := by
      unfold rw1
      rw [if_pos (by omega)]
    have e3 : R < grow R := by
      rw [g]
      have e4 : (R + 3 - 2) * 2 ≤ (R + 3 - low R) * low R := by
        have a := sq_gap R 2
        have b : (2 * low R - (R + 3)) * (2 * low R - (R + 3)) ≤ 1 := one_sq (by unfold low; omega)
        by_cases h1 : R = 1
        · subst h1
          decide
        · by_cases h2 : R = 2
          · subst h2; decide
          · have c2 : 1 ≤ (2 * 2 - (R + 3)) * (2 * 2 - (R + 3)) := by
              have := two_sq (d := 2 * 2 - (R + 3)) (by omega)
              omega
            omega
      omega
    refine ⟨by omega, fun z => by omega, fun z => ?_⟩
    exfalso
    have := high_le hR
    unfold bests at z
    split at z
    · have := List.mem_singleton.mp z
      omega
    · simp at z
      omega

theorem grow_gt {R : Int} (hR : 1 ≤ R) : R < grow R := by
  have a := (rw1_le_grow (k := 2) (R := R) (by omega) hR).1
  rw [rw1_low (by omega)] at a
  by_cases h : R = 1
  · subst h; decide
  · omega
theorem grow_pos {R : Int} (hR : 1 ≤ R) : 1 ≤ grow R := by have := grow_gt hR; omega
theorem rw1_lt {k R S : Int} (hk : 2 ≤ k) (hR : 1 ≤ R) (h : R < S) : rw1 k R < grow S := by
  have hS : 1 ≤ S := by omega
  by_cases c : k ≤ R + 1
  · have a := (rw1_le_grow (k := k) hk hS).1
    rw [rw1_low (by omega)] at a
    rw [rw1_low (by omega)]
    have : (R + 3 - k) * k < (S + 3 - k) * k := Int.mul_lt_mul_of_pos_right (by omega) (by omega)
    omega
  · have e2 : rw1 k R = R := by
      unfold rw1
      rw [if_pos (by omega)]
    have := grow_gt hS
    omega
theorem grow_lt {R S : Int} (hR : 1 ≤ R) (h : R < S) : grow R < grow S := rw1_lt (low_ge hR) hR h
theorem up_pos {v : Int} (hv : 1 ≤ v) : ∀ n, 1 ≤ up n v
  | 0 => hv
  | n + 1 => grow_pos (up_pos hv n)
theorem up_lt {v : Int} (hv : 1 ≤ v) (n : Nat) : up n v < up (n + 1) v := grow_gt (up_pos hv n)
theorem up_mono {v : Int} (hv : 1 ≤ v) {i : Nat} : ∀ {j : Nat}, i ≤ j → up i v ≤ up j v
  | 0, h => by
    have e : i = 0 := by omega
    subst e
    exact Int.le_refl _
  | j + 1, h => by
    by_cases c : i = j + 1
    · subst c; exact Int.le_refl _
    · have := up_mono hv (i := i) (j := j) (by omega)
      have := up_lt hv j
      omega

/-- the choices of each place -/
def chs : Nat → Int → List (List Int)
  | 0, _ => []
  | n + 1, v => bests (up n v) :: chs n v
/-- one of each -/
def Each : List Int → List (List Int) → Prop
  | [], [] => True
  | k :: ks, c :: cs => k ∈ c ∧ Each ks cs
  | _, _ => False
theorem rch_best : ∀ (ks : List Int) (v : Int), (∀ k ∈ ks, 2 ≤ k) → 1 ≤ v → rch ks v ≤ up ks.length v ∧ (rch ks v = up ks.length v ↔ Each ks (chs ks.length v))
  | [], v, _, _ => ⟨Int.le_refl _, fun _ => trivial, fun _ => rfl⟩
  | k :: ks, v, h, hv => by
    have hk := h k (List.mem_cons_self ..)
    have ht : ∀ x ∈ ks, 2 ≤ x := fun x hx => h x (List.mem_cons_of_mem _ hx)
    obtain ⟨a1, a2⟩ := rch_best ks v ht hv
    have p := rch_pos ks v ht hv
    show rw1 k (rch ks v) ≤ grow (up ks.length v) ∧ (rw1 k (rch ks v) = grow (up ks.length v) ↔ k ∈ bests (up ks.length v) ∧ Each ks (chs ks.length v))
    by_cases e : rch ks v = up ks.length v
    · rw [e]
      obtain ⟨b1, b2⟩ := rw1_le_grow (k := k) (R := up ks.length v) hk (up_pos hv _)
      exact ⟨b1, fun z => ⟨b2.mp z, a2.mp e⟩, fun z => b2.mpr z.1⟩
    · have l := rw1_lt (k := k) hk p (show rch ks v < up ks.length v by omega)
      exact ⟨by omega, fun z => by omega, fun z => absurd (a2.mpr z.2) e⟩
end Sq

set_option Elab.async false
set_option linter.all false
/-! One of each choice, by its place. -/
namespace Sq
def lens : List (List Int) → Int
  | [] => 1
  | c :: cs => (c.length : Int) * lens cs
def pick : List (List Int) → Int → List Int
  | [], _ => []
  | c :: cs, p => c.getD ((p / lens cs) % (c.length : Int)).toNat 0 :: pick cs p
def Full (cs : List (List Int)) : Prop := ∀ c ∈ cs, 0 < c.length
theorem Full.tl {c : List Int} {cs : List (List Int)} (h : Full (c :: cs)) : Full cs := fun x hx => h x (List.mem_cons_of_mem _ hx)
theorem Full.hd {c : List Int} {cs : List (List Int)} (h : Full (c :: cs)) : 0 < c.length := h c (List.mem_cons_self ..)
theorem lens_pos : ∀ {cs : List (List Int)}, Full cs → 0 < lens cs
  | [], _ => by decide
  | c :: cs, h => Int.mul_pos (by have := h.hd; omega) (lens_pos h.tl)
theorem pick_len : ∀ (cs : List (List Int)) (p : Int), (pick cs p).length = cs.length
  | [], _ => rfl
  | _ :: cs, p => congrArg Nat.succ (pick_len cs p)
theorem pick_add : ∀ {cs : List (List Int)} (p t : Int), Full cs → pick cs (p + t * lens cs) = pick cs p
  | [], _, _, _ => rfl
  | c :: cs, p, t, h => by
    have m := lens_pos h.tl
    have e : p + t * ((c.length : Int) * lens cs) = p + (t * (c.length : Int)) * lens cs := by rw [Int.mul_assoc]
    show c.getD (((p + t * ((c.length : Int) * lens cs)) / lens cs) % (c.length : Int)).toNat 0 :: pick cs (p + t * ((c.length : Int) * lens cs)) = c.getD ((p / lens cs) % (c.length : Int)).toNat 0 :: pick cs p
    rw [e, pick_add p _ h.tl, Int.add_mul_ediv_right _ _ (by omega : lens cs ≠ 0), Int.add_mul_emod_self_right]
theorem pick_mod {cs : List (List Int)} (p : Int) (h : Full cs) : pick cs (p % lens cs) = pick cs p := by
  have a := pick_add (p % lens cs) (p / lens cs) h
  have e : p % lens cs + p / lens cs * lens cs = p := by rw [Int.mul_comm]; exact Int.emod_add_mul_ediv p (lens cs)
  rw [e] at a
  exact a.symm
theorem at_mem {c : List Int} (h : 0 < c.length) (z : Int) : c.getD (z % (c.length : Int)).toNat 0 ∈ c := by
  have a := Int.emod_nonneg z (by omega : (c.length : Int) ≠ 0)
  have b := Int.emod_lt_of_pos z (by omega : 0 < (c.length : Int))
  have lt : (z % (c.length : Int)).toNat < c.length := by omega
  rw [List.getD_eq_getElem?_getD, List.getElem?_eq_getElem lt]
  exact List.getElem_mem lt
theorem pick_each : ∀ {cs : List (List Int)} (p : Int), Full cs → Each (pick cs p) cs
  | [], _, _ => trivial
  | c :: cs, p, h => ⟨at_mem h.hd _, pick_each p h.tl⟩
theorem div_lt {p a M : Int} (h0 : 0 ≤ p) (hM : 0 < M) (h : p < a * M) : 0 ≤ p / M ∧ p / M < a := ⟨Int.ediv_nonneg h0 (by omega), Int.ediv_lt_of_lt_mul hM h⟩
theorem pick_all : ∀ {cs : List (List Int)} {ks : List Int}, Full cs → Each ks cs → ∃ p : Int, 0 ≤ p ∧ p < lens cs ∧ pick cs p = ks
  | [], [], _, _ => ⟨0, by decide, by decide, rfl⟩
  | c :: cs, k :: ks, h, e => by
    obtain ⟨p, p0, p1, pe⟩ := pick_all (cs := cs) (ks := ks) h.tl e.2
    obtain ⟨i, hi, ek⟩ := List.mem_iff_getElem.mp e.1
    have m := lens_pos h.tl
    refine ⟨p + i * lens cs, ?_, ?_, ?_⟩
    · have := Int.mul_nonneg (by omega : (0 : Int) ≤ i) (by omega : 0 ≤ lens cs)
      omega
    · have : ((i : Int) + 1) * lens cs ≤ (c.length : Int) * lens cs := Int.mul_le_mul_of_nonneg_right (by omega) (by omega)
      rw [Int.add_mul] at this
      show p + i * lens cs < (c.length : Int) * lens cs
      omega
    · show c.getD (((p + i * lens cs) / lens cs) % (c.length : Int)).toNat 0 :: pick cs (p + i * lens cs) = k :: ks
      rw [pick_add p _ h.tl, pe, Int.add_mul_ediv_right _ _ (by omega : lens cs ≠ 0), Int.ediv_eq_zero_of_lt p0 p1, Int.zero_add, Int.emod_eq_of_lt (by omega) (by omega)]
      have : ((i : Int)).toNat = i := by omega
      rw [this, List.getD_eq_getElem?_getD, List.getElem?_eq_getElem hi]
      exact congrArg (· :: ks) ek
  | [], _ :: _, _, e => e.elim
  | _ :: _, [], _, e => e.elim
/-- the first that differs is less -/
def Lx : List Int → List Int → Prop
  | x :: xs, y :: ys => x < y ∨ (x = y ∧ Lx xs ys)
  | _, _ => False
def Asc (c : List Int) : Prop := ∀ i j : Nat, i < j → j < c.length → c.getD i 0 < c.getD j 0
theorem pick_lx : ∀ {cs : List (List Int)} {p q : Int}, Full cs → (∀ c ∈ cs, Asc c) → 0 ≤ p → p < q → q < lens cs → Lx (pick cs p) (pick cs q)
  | [], p, q, _, _, h0, h1, h2 => by
    have : q < 1 := h2
    omega
  | c :: cs, p, q, h, ha, h0, h1, h2 => by
    have m := lens_pos h.tl
    have h2' : q < (c.length : Int) * lens cs := h2
    obtain ⟨a1, a2⟩ := div_lt h0 m (by omega : p < (c.length : Int) * lens cs)
    obtain ⟨b1, b2⟩ := div_lt (by omega : 0 ≤ q) m h2'
    have le : p / lens cs ≤ q / lens cs := Int.ediv_le_ediv m (by omega)
    show _ < _ ∨ (_ = _ ∧ Lx (pick cs p) (pick cs q))
    rw [Int.emod_eq_of_lt a1 a2, Int.emod_eq_of_lt b1 b2]
    by_cases e : p / lens cs = q / lens cs
    · right
      refine ⟨by rw [e], ?_⟩
      rw [← pick_mod p h.tl, ← pick_mod q h.tl]
      have x := Int.emod_add_mul_ediv p (lens cs)
      have y := Int.emod_add_mul_ediv q (lens cs)
      rw [e] at x
      exact pick_lx h.tl (fun z hz => ha z (List.mem_cons_of_mem _ hz)) (Int.emod_nonneg _ (by omega)) (by omega) (Int.emod_lt_of_pos _ m)
    · left
      exact ha c (List.mem_cons_self ..) _ _ (by omega) (by omega)
theorem bests_len (R : Int) : (bests R).length = if R % 2 = 0 then 2 else 1 := by
  unfold bests
  by_cases h : R % 2 = 0
  · rw [if_pos h, if_neg (show ¬ low R = high R by unfold low high; omega)]
    rfl
  · rw [if_neg h, if_pos (show low R = high R by unfold low high; omega)]
    rfl
theorem bests_asc (R : Int) : Asc (bests R) := by
  intro i j h1 h2
  rw [bests_len] at h2
  split at h2
  · have e1 : i = 0 := by omega
    have e2 : j = 1 := by omega
    subst e1 e2
    unfold bests
    rw [if_neg (show ¬ low R = high R by unfold low high; omega)]
    show low R < high R
    unfold low high
    omega
  · omega
theorem chs_len : ∀ (n : Nat) (v : Int), (chs n v).length = n
  | 0, _ => rfl
  | n + 1, v => congrArg Nat.succ (chs_len n v)
theorem chs_mem : ∀ {n : Nat} {v : Int} {c : List Int}, c ∈ chs n v → ∃ i, i < n ∧ c = bests (up i v)
  | n + 1, v, c, h => by
    rcases List.mem_cons.mp h with e | h
    · exact ⟨n, by omega, e⟩
    · obtain ⟨i, hi, e⟩ := chs_mem h
      exact ⟨i, by omega, e⟩
theorem chs_full (n : Nat) (v : Int) : Full (chs n v) := fun c h => by
  obtain ⟨i, _, rfl⟩ := chs_mem h
  rw [bests_len]
  split <;> omega
theorem chs_asc (n : Nat) (v : Int) : ∀ c ∈ chs n v, Asc c := fun c h => by
  obtain ⟨i, _, rfl⟩ := chs_mem h
  exact bests_asc _
/-- the even reaches -/
def evens (n : Nat) (v : Int) : Nat := match n with
  | 0 => 0
  | n + 1 => evens n v + if up n v % 2 = 0 then 1 else 0
theorem lens_chs : ∀ (n : Nat) (v : Int), lens (chs n v) = (2 : Int) ^ evens n v
  | 0, _ => rfl
  | n + 1, v => by
    show ((bests (up n v)).length : Int) * lens (chs n v) = (2 : Int) ^ (evens n v + if up n v % 2 = 0 then 1 else 0)
    rw [lens_chs n v, bests_len]
    by_cases h : up n v % 2 = 0
    · rw [if_pos h, if_pos h, Int.pow_succ]
      omega
    · rw [if_neg h, if_neg h]
      show (1 : Int) * _ = _
      rw [Int.one_mul]
      rfl
theorem evens_le (n : Nat) (v : Int) : evens n v ≤ n := by
  induction n with
  | zero => exact Nat.le_refl _
  | succ n ih =>
    show evens n v + (if up n v % 2 = 0 then 1 else 0) ≤ n + 1
    split <;> omega
theorem lens_le {n : Nat} (h : n ≤ 8) (v : Int) : lens (chs n v) ≤ 256 := by
  rw [lens_chs]
  have : (2 : Nat) ^ evens n v ≤ 2 ^ 8 := Nat.pow_le_pow_right (by decide) (Nat.le_trans (evens_le n v) h)
  have e : ((2 ^ evens n v : Nat) : Int) = (2 : Int) ^ evens n v := by push_cast; rfl
  omega
theorem each_ge : ∀ {n : Nat} {v : Int} {ks : List Int}, 1 ≤ v → Each ks (chs n v) → ∀ k ∈ ks, 2 ≤ k ∧ k ≤ up n v + 2
  | 0, v, [], _, _ => fun k h => by cases h
  | n + 1, v, k :: ks, hv, e => fun x hx => by
    have l := up_lt hv n
    rcases List.mem_cons.mp hx with z | z
    · subst z
      have p := up_pos hv n
      have e1 : x ∈ bests (up n v) := e.1
      have a := low_ge p
      have b := low_le p
      have c := high_le p
      have d : low (up n v) ≤ high (up n v) := by unfold low high; omega
      unfold bests at e1
      split at e1
      · have := List.mem_singleton.mp e1
        omega
      · simp at e1
        omega
    · have := each_ge hv e.2 x z
      omega
  | n + 1, v, [], _, e => e.elim
  | 0, v, _ :: _, _, e => e.elim
theorem each_len : ∀ {ks : List Int} {cs : List (List Int)}, Each ks cs → ks.length = cs.length
  | [], [], _ => rfl
  | _ :: _, _ :: _, e => congrArg Nat.succ (each_len e.2)
  | [], _ :: _, e => e.elim
  | _ :: _, [], e => e.elim
end Sq

set_option Elab.async false
set_option linter.all false
set_option maxRecDepth 100000
set_option maxHeartbeats 1000000
/-! `for` in a generator's body, with yields in its suite. -/
namespace PySem
open Sem (wp)
section
variable {M : Model} {A : Around} {R : GenEnd} {Y : Protocol} {n : Nat} {s₀ : Shared} {c : Code} {fs : List Frame} {s : Shared} {env : Env}
  {K : Flow → Sem Fin} {H : Value → Sem Fin} {gd : Bool → Bool} {lv : List Value → List Value}
theorem segFor {target iter : Expr} {body orelse : List Stmt} {pos : Pos}
    (h : wpAny M (A.over c fs) (eval iter env) (fun x s₁ => wpAny M (A.over c fs) (pyIter x) (fun it s₂ =>
        ∀ p, Seg M A R Y n s₀ (.forLoop target it body orelse env) (M.den (.forLoop target it body orelse env))
      (.ret (fun r => ((match r with | .ok f => (.pure f : Sem Flow) | .error e => .raise e).onRaise fun (x : Value) => do
        if (← field x 1) == Value.none then unsupported "frame.own-activation:exception-without-traceback"
        setFlight x env.frame).wrap K H gd lv) none (gd false) (lv []) c p [] :: fs) s₂) (fun x s' => Seg M A R Y n s₀ c (H x) fs s') s₁)
      (fun x s' => Seg M A R Y n s₀ c (H x) fs s') s)
    (hs : ∀ x, foldedSetIterable iter env x = pure x := by intro _; rfl) :
    Seg M A R Y n s₀ c ((exec (.For target iter body orelse pos) env).wrap K H gd lv) fs s := by
  rw [exec_For]
  refine seg_bind_wrap (wpAny_standAt ?_)
  refine seg_bind_wrap (wpAny_mono h (fun x s₁ h₁ => ?_) fun _ _ h' => h')
  refine seg_bind_wrap (wpAny_of_eq (hs x) ?_)
  refine seg_bind_wrap (wpAny_standAt ?_)
  refine seg_bind_wrap (wpAny_holding (wpAny_mono h₁ (fun it s₂ h₂ => ?_) fun _ _ h' => h'))
  exact seg_call h₂
end
section
variable {prog : Program} {w : World} {A : Around} {R : GenEnd} {Y : Protocol} {n : Nat} {s₀ : Shared} {fs : List Frame} {s : Shared} {env : Env}
theorem segForLoop {target : Expr} {it : Value} {body orelse : List Stmt}
    (h : wpAny (model prog w) (A.over (.forLoop target it body orelse env) fs) (pyNext it) (fun r s₁ => match r with
        | none => Seg (model prog w) A R Y n s₀ (.forLoop target it body orelse env) (.pure (.again (.block orelse env))) fs s₁
        | some v => wpAny (model prog w) (A.over (.forLoop target it body orelse env) fs) (letOwnedTupleGo target it v) (fun _ s₂ =>
            wpAny (model prog w) (A.over (.forLoop target it body orelse env) fs) (assign target env v) (fun _ s₃ =>
              Seg (model prog w) A R Y n s₀ (.forLoop target it body orelse env) ((execs body env).wrap (fun f => match f with
            | .next | .cont => .pure (.again (.forLoop target it body orelse env))
            | .brk => .pure (.done .next)
            | .ret v => .pure (.done (.ret v))) (fun e => (do noteFrame e env; theTreesLotGoes e : Sem Unit).wrap (fun _ => .raise e) .raise id id) id id) fs s₃)
              (fun x s' => Seg (model prog w) A R Y n s₀ (.forLoop target it body orelse env) ((do noteFrame x env; theTreesLotGoes x : Sem Unit).wrap (fun _ => .raise x) .raise id id) fs s') s₂)
            (fun x s' => Seg (model prog w) A R Y n s₀ (.forLoop target it body orelse env) ((do noteFrame x env; theTreesLotGoes x : Sem Unit).wrap (fun _ => .raise x) .raise id id) fs s') s₁)
      (fun x s' => Seg (model prog w) A R Y n s₀ (.forLoop target it body orelse env) ((do noteFrame x env; theTreesLotGoes x : Sem Unit).wrap (fun _ => .raise x) .raise id id) fs s') s) :
    Seg (model prog w) A R Y n s₀ (.forLoop target it body orelse env) ((model prog w).den (.forLoop target it body orelse env)) fs s := by
  show Seg _ A R Y n s₀ _ ((forTurn target it body orelse env).onRaise (fun x => do noteFrame x env; theTreesLotGoes x)) fs s
  unfold forTurn
  rw [Sem.onRaise_eq_wrap]
  have he : ∀ (x : Value) (s' : Shared), Seg (model prog w) A R Y n s₀ (.forLoop target it body orelse env) ((do noteFrame x env; theTreesLotGoes x : Sem Unit).wrap (fun _ => .raise x) .raise id id) fs s' →
      Seg (model prog w) A R Y n s₀ (.forLoop target it body orelse env) ((do noteFrame x env; theTreesLotGoes x : Sem Unit).bind fun _ => .raise x) fs s' := fun x s' hx => by
    rw [Sem.bind_eq_wrap]; exact hx
  refine seg_bind_wrap (wpAny_standAt ?_)
  refine seg_bind_wrap (wpAny_onRaise (wpAny_mono h (fun r s₁ h₁ => ?_) fun x s' hx => wpAny_standAt (he x s' hx)))
  cases r with
  | none => exact h₁
  | some v =>
    refine seg_bind_wrap (wpAny_mono h₁ (fun _ s₂ h₂ => ?_) fun x s' hx => he x s' hx)
    refine seg_bind_wrap (wpAny_mono h₂ (fun _ s₃ h₃ => ?_) fun x s' hx => he x s' hx)
    rw [Sem.bind_eq_wrap', Sem.wrap_wrap]
    rw [Sem.wrap_congr (execs body env) _ _ (K' := fun f => match f with
            | .next | .cont => .pure (.again (.forLoop target it body orelse env))
            | .brk => .pure (.done .next)
            | .ret v => .pure (.done (.ret v))) (H' := (fun e => (do noteFrame e env; theTreesLotGoes e : Sem Unit).wrap (fun _ => .raise e) .raise id id))
        (fun f => by cases f <;> rfl)
        (fun e => by first | exact Sem.bind_eq_wrap _ _ | (show (do noteFrame e env; theTreesLotGoes e : Sem Unit).bind (fun _ => .raise e) = _; rw [Sem.bind_eq_wrap]))]
    exact h₃
theorem segBlockNil (h : Seg (model prog w) A R Y n s₀ (.block [] env) (.pure (.done .next)) fs s) :
    Seg (model prog w) A R Y n s₀ (.block [] env) ((model prog w).den (.block [] env)) fs s := h
end
end PySem

namespace L2
open PySem PySem.Spec PyProof.Rows GenW
section
variable {X : Cx} {tg : Expr}
theorem gc_more {S : Addr} {ip ip' : List (Addr × Obj)} {A : Around} {c : Code} {fs : List Frame} {gd : Bool → Bool} (g : GC X S ip A c fs gd) (h : ∀ p ∈ ip', p.1 ≠ S) : GC X S (ip ++ ip') A c fs gd where
  pn := g.pn
  ip := fun p hp => (List.mem_append.mp hp).elim (g.ip p) (h p)
  apart := g.apart
  over := g.over
  split := g.split
  guard := g.guard
  gd := g.gd
theorem GI.less {S : Addr} {ip ip' : List (Addr × Obj)} {ys : List V} {σ : St} {H : Hp} {s : Shared} (h : GI X S (ip ++ ip') ys σ H s) : GI X S ip ys σ H s := by
  obtain ⟨acc, c, r, I⟩ := h
  exact ⟨acc, c, r, I.pins_of fun p hp => I.pin p (List.mem_append_right _ ((List.mem_cons.mp hp).elim (fun e => e ▸ List.mem_cons_self) fun z => List.mem_cons_of_mem _ (List.mem_append_left _ z)))⟩
/-- as tFor, with what is out -/
def tGFor (wi : TI) (g : TG) (tb : TGn) : TGn := fun D ys σ H => wi σ H fun J H1 => ∃ W : Nat → Nat → List V → St → Hp → Prop, (∃ m, W 0 m ys σ H1) ∧ ∀ i m ys σ H, W i m ys σ H →
  (J.stop i H ∧ D.nx ys σ H) ∨ (J.go i H ∧ ∃ N : List V → St → Hp → Prop, (∀ ys' σ' H', N ys' σ' H' → ∃ m', m' < m ∧ W (i + 1) m' ys' σ' H') ∧ ∀ x H', J.yld i H x H' → g x σ H' fun σ2 H2 => tb { D with nx := N, ct := N, bk := D.nx } ys σ2 H2)
theorem gs_for {iter : Expr} {body : List Stmt} {wi : TI} {g : TG} {tb : TGn} {pos : Pos} (hp : PassesOwn (model X.prog X.w) X.A X.env X.xe) (hcalm : X.calm = true) (hi : PI X tg iter wi) (hg : PG X tg g) (hb : GSs X body tb)
    (hs : ∀ x, foldedSetIterable iter X.env x = pure x := by intro _; rfl) : GS X (.For tg iter body [] pos) (tGFor wi g tb) := by
  refine ⟨fun A S ip R n ys s₀ c fs K J gd lv s σ H D gc hn k hI ht => ?_⟩
  obtain ⟨acc, cc, r, I⟩ := hI
  refine segFor ?_ hs
  rw [gc.over]
  refine wpAny_mono (hi.run _ s σ H _ I ht) (fun v s1 h1 => ?_) fun x s' hx => k.exc n s₀ x s' hx
  refine wpAny_mono h1 (fun itv s2 h2 => ?_) fun x s' hx => k.exc n s₀ x s' hx
  obtain ⟨it, fp, tn, J', H2, e, I2, T, st2, f2, W, ⟨m0, w0⟩, turn⟩ := h2
  subst e
  intro p
  have gl := fun (kk : Result → Sem PySem.Fin) => gc_loop (k := kk) (c' := .forLoop tg (.ref it) body [] X.env) (l := lv []) (kp := []) (p := p) gc rfl rfl
  have fpS : ∀ b ∈ fp, b ≠ S := fun b hb e => by
    obtain ⟨_, q1, q2, q3, q4, q5⟩ := f2 b hb
    exact q5 (S, lstObj acc cc) (List.mem_append_right _ List.mem_cons_self) e.symm
  have stat : ∀ {H' : Hp}, (∀ b ∈ fp, H' b = none) → ∀ {acc : Array Value} {c : Nat}, ∀ b ∈ fp, FpOk X ((S, lstObj acc c) :: ip) H' b := fun {H'} hn {acc c} b hb => by
    obtain ⟨_, q1, q2, q3, q4, q5⟩ := f2 b hb
    refine ⟨hn b hb, q1, q2, q3, q4, fun p hp => ?_⟩
    rcases List.mem_append.mp hp with z | z
    · exact q5 p (List.mem_append_left _ z)
    · rcases List.mem_cons.mp z with z | z
      · rw [z]
        exact fun e => fpS b hb e.symm
      · exact q5 p (List.mem_append_right _ (List.mem_cons_of_mem _ z))
  have loop : ∀ (m i n : Nat) (ys : List V) (s₀ s : Shared) (σ : St) (H : Hp), n + ys.length = sizeLine → W i m ys σ H → tn i s.heap → (∀ b ∈ fp, H b = none) → GI X S ip ys σ H s →
      Seg (model X.prog X.w) A R (GY X S) n s₀ (.forLoop tg (.ref it) body [] X.env) ((model X.prog X.w).den (.forLoop tg (.ref it) body [] X.env))
        (.ret (fun r => ((match r with | .ok f => (.pure f : Sem Flow) | .error e => .raise e).onRaise (cameBack X.env)).wrap K J gd lv) none (gd false) (lv []) c p [] :: fs) s := by
    intro m
    induction m using Nat.strongRecOn with
    | ind m ih =>
      intro i n ys s₀ s σ H hn w st fr hI
      have ee : ∀ (n : Nat) (s₀ : Shared) (x : Value) (s' : Shared), X.xe x s' → Seg (model X.prog X.w) A R (GY X S) n s₀ (.forLoop tg (.ref it) body [] X.env)
          ((do noteFrame x X.env; theTreesLotGoes x : Sem Unit).wrap (fun _ => .raise x) .raise id id)
          (.ret (fun r => ((match r with | .ok f => (.pure f : Sem Flow) | .error e => .raise e).onRaise (cameBack X.env)).wrap K J gd lv) none (gd false) (lv []) c p [] :: fs) s' := fun n s₀ x s' hx => by
        refine seg_wrap ?_
        rw [(gl _).over]
        refine wpAny_bind (wpAny_mono (hp x s' hx) (fun _ s'' hcb => wpAny_theTreesLotGoes ?_) fun y s'' hcb => ?_)
        · exact seg_leaf (.error x) (seg_cameBack gc k hcb)
        · exact seg_leaf (.error y) (seg_cameBack gc k hcb)
      refine segForLoop ?_
      rw [(gl _).over]
      obtain ⟨acc, cc, r, I⟩ := hI
      rcases turn i m ys σ H w with ⟨stop, qn⟩ | ⟨go, N, hN, step⟩
      · refine wpAny_mono (T.done X rfl rfl rfl hcalm i _ s σ H X.xe I (stat fr) st stop) (fun rr s4 hh => ?_) fun x s' hx => ee n s₀ x s' hx
        obtain ⟨hr, I4⟩ := hh
        subst hr
        refine seg_again rfl (segBlockNil ?_)
        exact seg_leaf (.ok .next) (k.ok n ys s₀ s4 .next hn ⟨σ, H, ⟨acc, cc, r, I4⟩, qn⟩)
      · refine wpAny_mono (T.item X rfl rfl rfl hcalm i _ s σ H X.xe I (stat fr) st go) (fun rr s4 hh => ?_) fun x s' hx => ee n s₀ x s' hx
        obtain ⟨u, hr, h4⟩ := hh
        subst hr
        refine wpAny_mono h4 (fun _ s5 hh => ?_) fun x s' hx => ee n s₀ x s' hx
        obtain ⟨x, H5, I5, r5, y5, st5, fr5⟩ := hh
        have I5' := I5.pinned (stat fr5) (T.obj _ _ st5)
        refine wpAny_mono (hg.run _ s5 σ H5 x u _ I5' r5 (step x H5 y5)) (fun _ s6 hh => ?_) fun x s' hx => ee n s₀ x s' hx
        obtain ⟨σ6, H6, I6, q6⟩ := hh
        have gm : GC X S (ip ++ pinsAt fp s5.heap) A (.forLoop tg (.ref it) body [] X.env) (.ret (fun r => ((match r with | .ok f => (.pure f : Sem Flow) | .error e => .raise e).onRaise (cameBack X.env)).wrap K J gd lv) none (gd false) (lv []) c p [] :: fs) id :=
          gc_more (gl _) fun q hq => fpS q.1 (of_pinsAt hq).1
        have again : ∀ {n' : Nat} {ys' : List V} {s₀' s7 : Shared} {σ7 : St} {H7 : Hp}, n' + ys'.length = sizeLine → GI X S (ip ++ pinsAt fp s5.heap) ys' σ7 H7 s7 → N ys' σ7 H7 →
            Seg (model X.prog X.w) A R (GY X S) n' s₀' (.forLoop tg (.ref it) body [] X.env) (.pure (.again (.forLoop tg (.ref it) body [] X.env)))
              (.ret (fun r => ((match r with | .ok f => (.pure f : Sem Flow) | .error e => .raise e).onRaise (cameBack X.env)).wrap K J gd lv) none (gd false) (lv []) c p [] :: fs) s7 := fun {n' ys' s₀' s7 σ7 H7} hn' I7 n7 => by
          obtain ⟨m', hm, w7⟩ := hN ys' σ7 H7 n7
          have pz : ∀ b ∈ fp, ∀ o, s5.heap.get? b = some o → s7.heap.get? b = some o ∧ H7 b = none := fun b hb o e => by
            obtain ⟨acc7, c7, _, I7'⟩ := I7
            have z := I7'.pin (b, o) (List.mem_append_right _ (List.mem_cons_of_mem _ (List.mem_append_right _ (mem_pinsAt hb e))))
            exact ⟨z.1, z.2.1⟩
          refine seg_again rfl (ih m' hm (i + 1) n' ys' s₀' s7 σ7 H7 hn' w7 (T.keep _ _ _ st5 fun b hb o e => (pz b hb o e).1) (fun b hb => ?_) I7.less)
          obtain ⟨o, e, d⟩ := T.obj _ _ st5 b hb
          exact (pz b hb o e).2
        refine hb.run A S (ip ++ pinsAt fp s5.heap) R n ys s₀ _ _ _ _ id id s6 σ6 H6 { D with nx := N, ct := N, bk := D.nx } gm hn ⟨fun n' ys' s₀' s3 f hn' hs => ?_, fun n' s₀' x s3 hx => ee n' s₀' x s3 hx⟩ ⟨acc, cc, r, I6⟩ q6
        cases f with
        | next =>
          obtain ⟨σ3, H3, I3, n3⟩ := hs
          exact again hn' I3 n3
        | cont =>
          obtain ⟨σ3, H3, I3, n3⟩ := hs
          exact again hn' I3 n3
        | brk =>
          obtain ⟨σ3, H3, I3, n3⟩ := hs
          exact seg_leaf (.ok .next) (k.ok n' ys' s₀' s3 .next hn' ⟨σ3, H3, I3.less, n3⟩)
        | ret v =>
          obtain ⟨x3, σ3, H3, I3, r3, n3⟩ := hs
          exact seg_leaf (.ok (.ret v)) (k.ok n' ys' s₀' s3 (.ret v) hn' ⟨x3, σ3, H3, I3.less, r3, n3⟩)
  exact loop m0 0 n ys s₀ s2 σ H2 hn w0 st2 (fun b hb => (f2 b hb).1) ⟨acc, cc, r, I2⟩
end
end L2

set_option Elab.async false
set_option linter.all false
set_option maxRecDepth 100000
set_option maxHeartbeats 2000000
/-! Lists of lists of ints; a walk in a generator. -/
namespace Sq
open PySem PySem.Spec PyProof.Rows L2
theorem gfor_it {J : It} {n : Nat} {G : Hp → Prop} {Y : Nat → Hp → V → Hp → Prop} (w : Walk J n G Y) {g : TG} {tb : TGn} {D : GEnds} {ys : List V} {σ : L2.St} {H : Hp} (Pv : Nat → List V → L2.St → Hp → Prop) (h0 : Pv 0 ys σ H) (hG : ∀ i ys σ H, i ≤ n → Pv i ys σ H → G H)
    (hs : ∀ i x ys σ H H', i < n → Pv i ys σ H → Y i H x H' → g x σ H' fun σ2 H2 => tb { D with nx := Pv (i + 1), ct := Pv (i + 1), bk := D.nx } ys σ2 H2) (hd : ∀ ys σ H, Pv n ys σ H → D.nx ys σ H) :
    ∃ W : Nat → Nat → List V → L2.St → Hp → Prop, (∃ m, W 0 m ys σ H) ∧ ∀ i m ys σ H, W i m ys σ H →
      (J.stop i H ∧ D.nx ys σ H) ∨ (J.go i H ∧ ∃ N : List V → L2.St → Hp → Prop, (∀ ys' σ' H', N ys' σ' H' → ∃ m', m' < m ∧ W (i + 1) m' ys' σ' H') ∧ ∀ x H', J.yld i H x H' → g x σ H' fun σ2 H2 => tb { D with nx := N, ct := N, bk := D.nx } ys σ2 H2) := by
  refine ⟨fun i m ys σ H => m = n - i ∧ i ≤ n ∧ Pv i ys σ H, ⟨n, by simp, Nat.zero_le _, h0⟩, ?_⟩
  rintro i m ys σ H ⟨rfl, hi, p⟩
  have q := hG i ys σ H hi p
  by_cases hlt : i < n
  · exact .inr ⟨w.goes i H hlt q, Pv (i + 1), fun ys' σ' H' p' => ⟨n - (i + 1), by omega, rfl, hlt, p'⟩, fun x H' y => hs i x ys σ H H' hlt p (w.yields i H x H' hlt q y)⟩
  · have e : i = n := by omega
    subst e
    exact .inl ⟨w.stops H q, hd ys σ H p⟩
/-- at each of them stands its list of ints -/
def RowsAt (H : Hp) : List Addr → List (List Int) → Prop
  | [], [] => True
  | a :: as, c :: cs => H a = some (.lst (c.map V.int)) ∧ RowsAt H as cs
  | _, _ => False
theorem RowsAt.same {H H' : Hp} (s : Same H H') : ∀ {as : List Addr} {cs : List (List Int)}, RowsAt H as cs → RowsAt H' as cs
  | [], [], _ => trivial
  | _ :: _, _ :: _, h => ⟨s _ _ h.1, RowsAt.same s h.2⟩
  | [], _ :: _, h => h.elim
  | _ :: _, [], h => h.elim
theorem RowsAt.len {H : Hp} : ∀ {as : List Addr} {cs : List (List Int)}, RowsAt H as cs → as.length = cs.length
  | [], [], _ => rfl
  | _ :: _, _ :: _, h => congrArg Nat.succ (RowsAt.len h.2)
  | [], _ :: _, h => h.elim
  | _ :: _, [], h => h.elim
theorem RowsAt.app {H : Hp} : ∀ {as : List Addr} {cs : List (List Int)} {bs : List Addr} {ds : List (List Int)}, RowsAt H as cs → RowsAt H bs ds → RowsAt H (as ++ bs) (cs ++ ds)
  | [], [], _, _, _, h2 => h2
  | _ :: _, _ :: _, _, _, h, h2 => ⟨h.1, RowsAt.app h.2 h2⟩
  | [], _ :: _, _, _, h, _ => h.elim
  | _ :: _, [], _, _, h, _ => h.elim
theorem RowsAt.rev {H : Hp} : ∀ {as : List Addr} {cs : List (List Int)}, RowsAt H as cs → RowsAt H as.reverse cs.reverse
  | [], [], _ => trivial
  | _ :: _, _ :: _, h => by
    rw [List.reverse_cons, List.reverse_cons]
    exact (RowsAt.rev h.2).app ⟨h.1, trivial⟩
  | [], _ :: _, h => h.elim
  | _ :: _, [], h => h.elim
theorem RowsAt.get {H : Hp} : ∀ {as : List Addr} {cs : List (List Int)} {i : Nat} {c : List Int}, RowsAt H as cs → cs[i]? = some c → ∃ a, as[i]? = some a ∧ H a = some (.lst (c.map V.int))
  | _ :: _, _ :: _, 0, _, h, e => by
    cases e
    exact ⟨_, rfl, h.1⟩
  | _ :: _, _ :: _, i + 1, _, h, e => RowsAt.get (i := i) h.2 e
  | [], _ :: _, _, _, h, _ => h.elim
  | _, [], _, _, _, e => by simp at e
theorem RowsAt.upd {H : Hp} {p : Addr} {o : HO} : ∀ {as : List Addr} {cs : List (List Int)}, RowsAt H as cs → p ∉ as → RowsAt (upd H p o) as cs
  | [], [], _, _ => trivial
  | a :: _, _ :: _, h, n => ⟨by rw [upd_ne (fun z => n (by rw [z]; exact List.mem_cons_self ..))]; exact h.1, RowsAt.upd h.2 (fun z => n (List.mem_cons_of_mem _ z))⟩
  | [], _ :: _, h, _ => h.elim
  | _ :: _, [], h, _ => h.elim
theorem RowsAt.off {H : Hp} {p : Addr} : ∀ {as : List Addr} {cs : List (List Int)}, RowsAt H as cs → H p = none → p ∉ as
  | [], [], _, _, z => nomatch z
  | a :: _, _ :: _, h, e, z => by
    rcases List.mem_cons.mp z with z | z
    · have := h.1
      rw [← z, e] at this
      cases this
    · exact RowsAt.off h.2 e z
  | [], _ :: _, h, _, _ => h.elim
  | _ :: _, [], h, _, _ => h.elim
theorem map_ref {as : List Addr} {i : Nat} {x : V} (h : (as.map V.ref)[i]? = some x) : ∃ a, as[i]? = some a ∧ V.ref a = x := by
  rw [List.getElem?_map] at h
  exact Option.map_eq_some_iff.mp h
/-- what they hold, as data -/
def dRows (cs : List (List Int)) : List PyData := cs.map fun c => PyData.list (c.map PyData.int)
theorem dp_rows {K : PySem.W.Frag} {H : Hp} : ∀ {as : List Addr} {cs : List (List Int)}, RowsAt H as cs → DpAll K H (as.map V.ref) (dRows cs)
  | [], [], _ => .nil
  | _ :: _, c :: _, h => .cons (.lst (SqL.of h.1) (dp_ints c)) (dp_rows h.2)
  | [], _ :: _, h => h.elim
  | _ :: _, [], h => h.elim
end Sq

set_option Elab.async false
set_option linter.all false
set_option maxRecDepth 100000
set_option maxHeartbeats 1000000
/-! Lists of lists of ints as data. -/
namespace Sq
open PySem PySem.Spec PyProof.Rows L2
theorem eqvAll_ints : ∀ xs ys : List Int, PyData.eqvAll (xs.map PyData.int) (ys.map PyData.int) = decide (xs = ys)
  | [], [] => rfl
  | [], _ :: _ => rfl
  | _ :: _, [] => rfl
  | x :: xs, y :: ys => by
    show (PyData.eqv (.int x) (.int y) && PyData.eqvAll (xs.map PyData.int) (ys.map PyData.int)) = decide (x :: xs = y :: ys)
    rw [eqvAll_ints xs ys]
    have e : PyData.eqv (.int x) (.int y) = decide (x = y) := by
      show (x == y) = decide (x = y)
      by_cases h : x = y
      · rw [decide_eq_true h]; exact beq_iff_eq.mpr h
      · rw [decide_eq_false h]; exact beq_eq_false_iff_ne.mpr h
    rw [e]
    by_cases h1 : x = y
    · by_cases h2 : xs = ys
      · subst h1 h2
        simp
      · simp [h1, h2]
    · simp [h1]
theorem eqv_ints (xs ys : List Int) : PyData.eqv (.list (xs.map PyData.int)) (.list (ys.map PyData.int)) = decide (xs = ys) := eqvAll_ints xs ys
theorem any_rows (r : List Int) : ∀ cs : List (List Int), ((dRows cs).any fun z => PyData.eqv z (.list (r.map PyData.int))) = decide (r ∈ cs)
  | [] => by simp [dRows]
  | c :: cs => by
    show (PyData.eqv (.list (c.map PyData.int)) (.list (r.map PyData.int)) || (dRows cs).any fun z => PyData.eqv z (.list (r.map PyData.int))) = _
    rw [any_rows r cs, eqv_ints]
    by_cases h1 : c = r
    · subst h1
      simp
    · by_cases h2 : r ∈ cs
      · simp [h2]
      · have : ¬ r = c := fun z => h1 z.symm
        simp [h1, h2, this]
theorem lay_rows : ∀ cs : List (List Int), PyData.canLayAll0 (dRows cs) = true
  | [] => rfl
  | c :: cs => by
    show (PyData.canLayAll0 (c.map PyData.int) && PyData.canLayAll0 (dRows cs)) = true
    rw [lay_rows cs, lays_ints c]
    rfl
theorem deep_rows : ∀ cs : List (List Int), PyData.depthAll (dRows cs) ≤ 2
  | [] => Nat.zero_le _
  | c :: cs => Nat.max_le.mpr ⟨Nat.add_le_add_right (deep_ints c) 1, deep_rows cs⟩
theorem shaped_rows (cs : List (List Int)) : SeqAt.shaped (.list (dRows cs)) = true := shaped_il (lay_rows cs) (Nat.le_trans (Nat.add_le_add_right (deep_rows cs) 1) (by decide))
theorem room65 {k : Nat} {A : Around} (r : Room k A) : A.units + 65 < cLine := by have := r.un; omega
def rLenK (K : PySem.W.Frag) : List V → Hp → VK → Prop := fun xs H Q => ∃ p ys, xs = [V.ref p] ∧ (SqL K H p ys ∨ SqT K H p ys) ∧ Q (V.int (ys.length : Nat)) H
theorem call_lenK {X : Cx} : CallR X (.builtin "len") (rLenK X.K) := call_len_seq
def rListK (K : PySem.W.Frag) : List V → Hp → VK → Prop := fun xs H Q => ∃ p ys, xs = [V.ref p] ∧ (SqL K H p ys ∨ SqT K H p ys) ∧ ∀ l, H l = none → Q (.ref l) (upd H l (.lst ys))
theorem call_listK {X : Cx} : CallR X (.type "list") (rListK X.K) := call_list_of
/-- kept by what turns the source alone -/
theorem RowsAt.keep {H H' : Hp} {l d : Addr} (k : ∀ b o, H b = some o → b ≠ l → b ≠ d → H' b = some o) : ∀ {as : List Addr} {cs : List (List Int)}, RowsAt H as cs → l ∉ as → d ∉ as → RowsAt H' as cs
  | [], [], _, _, _ => trivial
  | a :: _, _ :: _, h, n1, n2 => ⟨k _ _ h.1 (fun z => n1 (by rw [z]; exact List.mem_cons_self ..)) (fun z => n2 (by rw [z]; exact List.mem_cons_self ..)), RowsAt.keep k h.2 (fun z => n1 (List.mem_cons_of_mem _ z)) (fun z => n2 (List.mem_cons_of_mem _ z))⟩
  | [], _ :: _, h, _, _ => h.elim
  | _ :: _, [], h, _, _ => h.elim
end Sq

set_option Elab.async false
set_option linter.all false
set_option maxRecDepth 100000
set_option maxHeartbeats 4000000
/-! set(l) of a list of ints, kept so that it may be sorted; its len. -/
namespace Sq
open PySem PySem.Spec PyProof.Rows L2
abbrev emptyS (w : World) : Obj := { cls := .type "set", dict := none, data := .set #[] 0 (.fresh 0 0 (!w.params.followText "set-order")) }
section
variable {P : Program} {w : World} {A : Around} {E : Value → Shared → Prop} {s : Shared}
theorem set_of_list {l : Addr} {its : Array Value} {zs : List Int} {Q : Value → Shared → Prop} (quiet : A.handled = none) (isL : s.heap.IsList l its) (areI : IntsAre its.toList zs) (few : zs.length + 1 < scanBound)
    (fin : ∀ (g : Heap) (tk m : Nat), SetR w g s.heap.objs.size (fun j => decide (j ∈ zs)) m → m ≤ zs.length → (∀ b o, s.heap.get? b = some o → g.get? b = some o) → Q (.ref s.heap.objs.size) { s with heap := g, toks := tk }) :
    wpAny (model P w) A (call (.type "set") [.ref l]) Q E s := by
  have size : its.size = zs.length := by
    rw [← Array.length_toList]
    exact IntsAre.length areI
  obtain ⟨c0, tl0, mro0⟩ := F.called_set.mro
  have made0 := F.called_set.made
  have sub0 := F.called_set.sub
  refine wpAny_call (codeAny_of_tree (show wpAny _ _ (callAny (.type "set") _) _ _ _ from ?_))
  refine wpAny_pure ⟨Code.quiet_builtin _ (by decide +kernel), codeAny_builtin F.entry_type_call ?_⟩
  rw [Around.under_plain (weight_type_call_type "set" [.ref l] []) rfl]
  have t1 := F.called_set.notType
  have t2 := F.called_set.canCreate
  have t3 := F.typeCall_set_1 (.ref l)
  repeat (any_goals (first | assumption | wp_step))
  refine codeAny_mono (code_set_led1 (.ref l) (E := E) (Q₁ := fun ob s' => ob = .ref s.heap.objs.size ∧ s' = { s with heap := s.heap.push (emptyS w) }) ⟨rfl, rfl⟩) fun r s' hr => ?_
  match r, hr with
  | .error e, hr => exact hr
  | .ok .next, hr => exact hr.elim
  | .ok .brk, hr => exact hr.elim
  | .ok .cont, hr => exact hr.elim
  | .ok (.ret ob), hr =>
    obtain ⟨rfl, rfl⟩ := hr
    have gS : (s.heap.push (emptyS w)).get? s.heap.objs.size = some (emptyS w) := Heap.get?_push_size _ rfl
    have tS : Shared.TypeIs { s with heap := s.heap.push (emptyS w) } (.ref s.heap.objs.size) "set" := ⟨_, gS, rfl⟩
    have i1 := F.called_set.init.lookup
    have i2 := F.called_set.init.bind (.ref s.heap.objs.size)
    repeat (any_goals (first | assumption | wp_step))
    refine codeAny_mono (codeAny_call_builtin (R := wants (fun r s2 => r = .none ∧ ∃ g tk m, s2 = { s with heap := g, toks := tk } ∧ SetR w g s.heap.objs.size (fun j => decide (j ∈ zs)) m ∧ m ≤ zs.length ∧
        ∀ b o, s.heap.get? b = some o → g.get? b = some o) E) F.called_set.init.plain F.entry_set_init (check_set_init_1 tS ?_)) fun r2 s2 hr2 => ?_
    · obtain ⟨⟨cl, di, da, sl⟩, ol, isC, nl, isD⟩ := isL
      simp only at isC isD
      subst isC isD
      have ol1 : (s.heap.push (emptyS w)).get? l = some { cls := .type "list", dict := di, data := .seq its nl, slots := sl } := Heap.get?_push_of_some _ ol
      have n1 := F.sub_list_set
      have n2 := F.sub_list_frozenset
      have n3 : (Value.type "list" == Value.type "dict") = false := by decide
      have isL1 : (s.heap.push (emptyS w)).IsList l its := ⟨_, ol1, rfl, nl, rfl⟩
      unfold Builtin.«set.__init__» noKeywords Builtin.Frozenset.updateFrom
      generalize pk : pyIter = PK
      wp_walk
      subst pk
      refine wpAny_pyIter_list isL1 (wpAny_bind (wpAny_runValue ?_))
      have low : l < s.heap.objs.size := Heap.lt_size ol
      have q3 : A.in1.in1.in1.handled = none := by simp [quiet]
      have big : (s.heap.push (emptyS w)).objs.size = s.heap.objs.size + 1 := Heap.size_push ..
      have apart : l ≠ (s.heap.push (emptyS w)).objs.size := by rw [big]; exact Nat.ne_of_lt (Nat.lt_succ_of_lt low)
      have notIn : s.heap.objs.size ∉ [(s.heap.push (emptyS w)).objs.size, l] := by
        rw [big]
        intro z
        rcases List.mem_cons.mp z with z | z
        · exact absurd z (Nat.ne_of_lt (Nat.lt_succ_self _))
        · exact absurd (List.mem_singleton.mp z) (Nat.ne_of_gt low)
      have vals : ∀ (i : Nat) (v : Value), its[i]? = some v → ∃ k t, zs[i]? = some k ∧ v = .int k t := fun i v hv => by
        have li : i < zs.length := by rw [← size]; exact (Array.getElem?_eq_some_iff.mp hv).1
        obtain ⟨t, e⟩ := IntsAre.int_at areI i v (by rw [Array.getElem?_toList]; exact hv)
        refine ⟨zs[i], t, List.getElem?_eq_getElem li, ?_⟩
        rw [e, List.getD_eq_getElem?_getD, List.getElem?_eq_getElem li] <;> rfl
      refine set_update_ints ((Walks.list q3 _ l apart its).toS) s.heap.objs.size notIn zs size few vals (its.size - 0) 0 _ (by omega) (Nat.zero_le _) ⟨⟨_, Heap.get?_push_size _ rfl, rfl, rfl⟩, isL1.push _⟩ ⟨0, Nat.le_refl 0, setR_new_at (Heap.get?_push_of_some _ gS)⟩ ?_
      intro s3 m mv lm R3
      obtain ⟨g, gn, dr, tk, os⟩ := s3
      obtain rfl : gn = s.gens := mv.gens
      obtain rfl : dr = s.drawn := mv.drawn
      obtain rfl : os = s.os := mv.os
      rw [size] at lm
      refine (show wpAny _ _ _ _ _ _ from wpAny_pure (show wpAny _ _ (ret Value.none) _ _ _ from ?_))
      refine wpAny_pure ⟨rfl, g, tk, m, rfl, R3, lm, fun b o e => ?_⟩
      have lb : b < s.heap.objs.size := Heap.lt_size e
      refine mv.heap b o (fun z => ?_) (Heap.get?_push_of_some _ (Heap.get?_push_of_some _ e))
      rcases List.mem_cons.mp z with z | z
      · exact absurd z (Nat.ne_of_lt lb)
      · have z := List.mem_singleton.mp z
        rw [big] at z
        exact absurd z (Nat.ne_of_lt (Nat.lt_succ_of_lt lb))
    · match r2, hr2 with
      | .error e, hr2 => exact hr2
      | .ok .next, hr2 => exact hr2.elim
      | .ok .brk, hr2 => exact hr2.elim
      | .ok .cont, hr2 => exact hr2.elim
      | .ok (.ret v), hr2 =>
        obtain ⟨rfl, g, tk, m, rfl, R3, lm, kept⟩ := hr2
        repeat (any_goals (first | assumption | wp_step))
        exact fin _ _ _ R3 lm kept
end
theorem perm_of_sub {α : Type} [DecidableEq α] : ∀ {A B : List α}, A.Nodup → (∀ x ∈ A, x ∈ B) → B.length = A.length → A.Perm B
  | [], B, _, _, l => by rw [List.length_eq_zero_iff.mp l]
  | a :: A, B, nd, sub, l => by
    have nd' := List.nodup_cons.mp nd
    have ha := sub a List.mem_cons_self
    have le := List.length_erase_of_mem ha
    rw [List.length_cons] at l
    have ih := perm_of_sub (A := A) (B := B.erase a) nd'.2 (fun x hx => (List.mem_erase_of_ne (fun z : x = a => nd'.1 (by rw [← z]; exact hx))).mpr (sub x (List.mem_cons_of_mem _ hx))) (by omega)
    exact (ih.cons a).trans (List.perm_cons_erase ha).symm
theorem setR_count {w : World} {h : Heap} {a : Addr} {zs : List Int} {m : Nat} (R : SetR w h a (fun j => decide (j ∈ zs)) m) : m = zs.length ↔ zs.Nodup := by
  obtain ⟨o, es, ep, t, get, ex, data, good, once, mem, bound, fits, size, ris, led⟩ := R
  have len : (es.toList.map keyOf).length = m := by rw [List.length_map, Array.length_toList]; exact size
  have sub : ∀ x, x ∈ es.toList.map keyOf ↔ x ∈ zs := fun x => by rw [← mem x]; exact decide_eq_true_iff
  constructor
  · intro e
    exact (perm_of_sub once (fun x hx => (sub x).mp hx) (by rw [len, e])).nodup_iff.mp once
  · intro nd
    have a := len_le_of nd fun x hx => (sub x).mpr hx
    have b := len_le_of once fun x hx => (sub x).mp hx
    omega
section
variable {X : Cx}
def rSetL (K : PySem.W.Frag) (w : World) : List V → Hp → VK → Prop := fun vs H Q => ∃ (l : Addr) (zs : List Int), vs = [.ref l] ∧ SqL K H l (zs.map V.int) ∧ zs.length ≤ 4000 ∧ ∀ p m, H p = none → m ≤ zs.length → (m = zs.length ↔ zs.Nodup) → Q (.ref p) (upd H p (SetO w p (fun j => decide (j ∈ zs)) m))
theorem call_setL (hc : X.calm = true) : CallR X (.type "set") (rSetL X.K X.w) := by
  intro pins s σ H vs us Q I r h
  obtain ⟨l, zs, rfl, hs, few, q⟩ := h
  rw [Vals.ref1 r]
  obtain ⟨its, rv, pl, _⟩ := I.list hs
  refine set_of_list (I.ok.hd hc) pl.isList (by simpa using ints_of_vals rv) (by unfold scanBound; omega) fun g tk m R lm kept => ?_
  have free : H s.heap.objs.size = none := I.hok.fresh (Nat.le_refl _)
  exact ⟨.ref s.heap.objs.size, upd H s.heap.objs.size (SetO X.w s.heap.objs.size (fun j => decide (j ∈ zs)) m), I.laid kept (Nat.le_refl _) (setO_new R), rfl, q _ m free lm (setR_count R)⟩
def rLenS (w : World) : List V → Hp → VK → Prop := fun vs H Q => ∃ (a : Addr) (S : Int → Bool) (n : Nat), vs = [.ref a] ∧ H a = some (SetO w a S n) ∧ n ≤ 4000 ∧ Q (.int (n : Int)) H
theorem call_lenS : CallR X (.builtin "len") (rLenS X.w) := by
  intro pins s σ H vs us Q I r h
  obtain ⟨a, S, n, rfl, ha, few, q⟩ := h
  rw [Vals.ref1 r]
  obtain ⟨o, es, ep, t, get, ex, data, good, once, mem, bound, fits, size, ris, led⟩ := setO_get I ha
  refine call_len_set get ex data fits (by rw [size]; omega) ⟨.int (n : Int), H, I.tok _, ⟨_, by rw [size]⟩, q⟩
end
end Sq

set_option Elab.async false
set_option linter.all false
set_option maxHeartbeats 1000000
/-! Choices counted: the longest run after a replacement, and how many choices are good. -/
namespace Sq
def la (L k : Int) : Int := if k > L then L else (L + 1) / k + k - 2
/-- 2, 3, .., g -/
def cand (g : Int) : List Int := (List.range (g - 1).toNat).map fun i : Nat => 2 + (i : Int)
theorem mem_cand {g k : Int} : k ∈ cand g ↔ 2 ≤ k ∧ k ≤ g := by
  unfold cand
  rw [List.mem_map]
  constructor
  · rintro ⟨i, hi, rfl⟩
    have := List.mem_range.mp hi
    omega
  · intro h
    exact ⟨(k - 2).toNat, List.mem_range.mpr (by omega), by omega⟩
def cnt (g : Int) : Nat → Int → Nat
  | 0, L => if L ≤ 1 then 1 else 0
  | n + 1, L => ((cand g).map fun k => cnt g n (la L k)).sum
theorem la_le {L k : Int} (hk : 2 ≤ k) (h0 : 0 ≤ L) : 0 ≤ la L k ∧ la L k ≤ L := by
  unfold la
  split
  · omega
  · rename_i h
    have hk' : k ≤ L := by omega
    have q1 : 1 ≤ (L + 1) / k := Int.le_ediv_of_mul_le (by omega) (by omega)
    refine ⟨by omega, ?_⟩
    by_cases c : (L + 1) / k + k - 2 ≤ L
    · exact c
    · exfalso
      have e := Int.mul_ediv_add_emod (L + 1) k
      have r0 := Int.emod_nonneg (L + 1) (by omega : k ≠ 0)
      generalize (L + 1) / k = q at *
      have m : (k - 1) * (q - 1) ≥ 0 := Int.mul_nonneg (by omega) (by omega)
      have e2 : (k - 1) * (q - 1) = k * q - k - q + 1 := by
        rw [Int.sub_mul, Int.mul_sub, Int.mul_one, Int.one_mul]
        omega
      omega
/-- what a reach says of the longest run -/
theorem la_reach {L k R : Int} (hk : 2 ≤ k) (hR : 1 ≤ R) (h0 : 0 ≤ L) (h : la L k ≤ R) : L ≤ grow R := by
  have g := (rw1_le_grow (k := k) hk hR).1
  unfold la at h
  split at h
  · have := grow_gt hR
    omega
  · rename_i hl
    by_cases c : k ≤ R + 2
    · rw [rw1_low c] at g
      have lt : L + 1 < (R + 3 - k) * k := by
        have : (L + 1) / k < R + 3 - k := by omega
        exact (Int.ediv_lt_iff_lt_mul (by omega)).mp this
      omega
    · exfalso
      have : 0 ≤ (L + 1) / k := Int.ediv_nonneg (by omega) (by omega)
      omega
theorem cnt_zero {g : Int} : ∀ {n : Nat} {L : Int}, 0 ≤ L → up n 1 < L → cnt g n L = 0
  | 0, L, _, h => if_neg (by show ¬ L ≤ 1; have : (1 : Int) < L := h; omega)
  | n + 1, L, h0, h => by
    show ((cand g).map fun k => cnt g n (la L k)).sum = 0
    have all : ∀ x ∈ (cand g).map (fun k => cnt g n (la L k)), x = 0 := fun x hx => by
      obtain ⟨k, hk, rfl⟩ := List.mem_map.mp hx
      have k2 := (mem_cand.mp hk).1
      refine cnt_zero (la_le k2 h0).1 ?_
      by_cases c : la L k ≤ up n 1
      · have := la_reach k2 (up_pos (by decide) n) h0 c
        have e : up (n + 1) 1 = grow (up n 1) := rfl
        omega
      · omega
    generalize (cand g).map (fun k => cnt g n (la L k)) = xs at all
    induction xs with
    | nil => rfl
    | cons x xs ih => rw [List.sum_cons, all x (List.mem_cons_self ..), ih fun y hy => all y (List.mem_cons_of_mem _ hy)]
theorem cand_len (g : Int) : (cand g).length = (g - 1).toNat := by
  unfold cand
  rw [List.length_map, List.length_range]
theorem cnt_le {g : Int} : ∀ (n : Nat) (L : Int), cnt g n L ≤ (g - 1).toNat ^ n
  | 0, L => by show (if L ≤ 1 then 1 else 0) ≤ 1; split <;> omega
  | n + 1, L => by
    show ((cand g).map fun k => cnt g n (la L k)).sum ≤ (g - 1).toNat ^ (n + 1)
    have b : ∀ (xs : List Int), (xs.map fun k => cnt g n (la L k)).sum ≤ xs.length * (g - 1).toNat ^ n := fun xs => by
      induction xs with
      | nil => exact Nat.zero_le _
      | cons x xs ih =>
        rw [List.map_cons, List.sum_cons, List.length_cons, Nat.add_mul, Nat.one_mul]
        have := cnt_le (g := g) n (la L x)
        omega
    have := b (cand g)
    rw [cand_len] at this
    rw [Nat.pow_succ, Nat.mul_comm]
    exact this
/-- how far n steps reach decides how many are needed -/
theorem up_up {n m : Nat} {v : Int} (hv : 1 ≤ v) (h : n ≤ m) : up n v ≤ up m v := up_mono hv h
/-- distinct ints between 0 and L -/
theorem few_ints : ∀ {ds : List Int} {L : Int}, ds.Nodup → (∀ x ∈ ds, 0 ≤ x ∧ x ≤ L) → 0 ≤ L → ds.length ≤ L.toNat + 1 := fun {ds L} nd h h0 => by
  have sub : (ds.map Int.toNat).Nodup := by
    induction ds with
    | nil => exact List.nodup_nil
    | cons x xs ih =>
      rw [List.map_cons, List.nodup_cons]
      rw [List.nodup_cons] at nd
      refine ⟨fun z => ?_, ih nd.2 fun y hy => h y (List.mem_cons_of_mem _ hy)⟩
      obtain ⟨y, hy, e⟩ := List.mem_map.mp z
      have hx := h x (List.mem_cons_self ..)
      have hy' := h y (List.mem_cons_of_mem _ hy)
      have : y = x := by omega
      exact nd.1 (this ▸ hy)
  have sub2 : (ds.map Int.toNat) ⊆ List.range (L.toNat + 1) := fun x hx => by
    obtain ⟨y, hy, e⟩ := List.mem_map.mp hx
    have := h y hy
    exact List.mem_range.mpr (by omega)
  have := List.Nodup.length_le_of_subset sub sub2
  rw [List.length_map, List.length_range] at this
  exact this
end Sq

set_option Elab.async false
set_option linter.all false
set_option maxRecDepth 100000
set_option maxHeartbeats 1000000
/-! Walks with an open step; members without doubles; the lengths by place. -/
namespace Sq
open PySem PySem.Spec PyProof.Rows L2
theorem walkL {K : PySem.W.Frag} {a : Addr} {xs : List V} {Qd : Hp → Prop} {St : V → Hp → (Hp → Prop) → Prop} {H0 : Hp} (Pv : Nat → Hp → Prop) (h0 : Pv 0 H0) (hl : ∀ i H, i ≤ xs.length → Pv i H → SqL K H a xs)
    (hs : ∀ i x H, xs[i]? = some x → Pv i H → St x H (Pv (i + 1))) (hd : ∀ H, Pv xs.length H → Qd H) :
    ∃ W : Nat → Nat → Hp → Prop, (∃ m, W 0 m H0) ∧ ∀ i m H, W i m H → ((Itl K a).stop i H ∧ Qd H) ∨ ((Itl K a).go i H ∧ ∃ Nx : Hp → Prop, (∀ H', Nx H' → ∃ m', m' < m ∧ W (i + 1) m' H') ∧ ∀ x H', (Itl K a).yld i H x H' → St x H' Nx) := by
  refine ⟨fun i m H => m = xs.length - i ∧ i ≤ xs.length ∧ Pv i H, ⟨_, rfl, Nat.zero_le _, h0⟩, ?_⟩
  rintro i m H ⟨rfl, le, p⟩
  have there := hl i H le p
  by_cases lt : i < xs.length
  · exact .inr ⟨⟨xs, xs[i], there, List.getElem?_eq_getElem lt⟩, Pv (i + 1), fun H' p' => ⟨xs.length - (i + 1), by omega, rfl, lt, p'⟩, fun x H' y => by
      obtain ⟨rfl, e⟩ := y
      exact hs i x _ (e xs there) p⟩
  · obtain rfl : i = xs.length := by omega
    exact .inl ⟨⟨xs, there, Nat.le_refl _⟩, hd H p⟩
theorem walkR {lo : Int} {n : Nat} {Qd : Hp → Prop} {St : V → Hp → (Hp → Prop) → Prop} {H0 : Hp} (Pv : Nat → Hp → Prop) (h0 : Pv 0 H0)
    (hs : ∀ i H, i < n → Pv i H → St (.int (lo + i)) H (Pv (i + 1))) (hd : ∀ H, Pv n H → Qd H) :
    ∃ W : Nat → Nat → Hp → Prop, (∃ m, W 0 m H0) ∧ ∀ i m H, W i m H → ((Itr lo n).stop i H ∧ Qd H) ∨ ((Itr lo n).go i H ∧ ∃ Nx : Hp → Prop, (∀ H', Nx H' → ∃ m', m' < m ∧ W (i + 1) m' H') ∧ ∀ x H', (Itr lo n).yld i H x H' → St x H' Nx) := by
  refine ⟨fun i m H => m = n - i ∧ i ≤ n ∧ Pv i H, ⟨_, rfl, Nat.zero_le _, h0⟩, ?_⟩
  rintro i m H ⟨rfl, le, p⟩
  by_cases lt : i < n
  · exact .inr ⟨lt, Pv (i + 1), fun H' p' => ⟨n - (i + 1), by omega, rfl, lt, p'⟩, fun x H' y => by
      obtain ⟨rfl, rfl⟩ := y
      exact hs i _ lt p⟩
  · obtain rfl : i = n := by omega
    exact .inl ⟨Nat.le_refl _, hd H p⟩
/-! ### without doubles -/
def dd (vs : List Int) : List Int := vs.foldl (fun ds x => if x ∈ ds then ds else ds ++ [x]) []
theorem dd_snoc (vs : List Int) (y : Int) : dd (vs ++ [y]) = if y ∈ dd vs then dd vs else dd vs ++ [y] := by
  unfold dd
  rw [List.foldl_append]
  rfl
theorem dd_mem (vs : List Int) (x : Int) : x ∈ dd vs ↔ x ∈ vs := by
  suffices h : ∀ (n : Nat) (vs : List Int), vs.length = n → (x ∈ dd vs ↔ x ∈ vs) from h _ vs rfl
  intro n
  induction n with
  | zero =>
    intro vs h
    rw [List.length_eq_zero_iff.mp h]
    exact Iff.rfl
  | succ n ih =>
    intro vs h
    obtain ⟨ws, y, rfl⟩ : ∃ ws y, vs = ws ++ [y] := ⟨vs.dropLast, vs.getLast (by intro z; rw [z] at h; cases h), (List.dropLast_concat_getLast _).symm⟩
    have hw : ws.length = n := by simpa using h
    have e := ih ws hw
    rw [dd_snoc, List.mem_append, List.mem_singleton]
    by_cases c : y ∈ dd ws
    · rw [if_pos c, e]
      constructor
      · exact .inl
      · rintro (z | z)
        · exact z
        · exact e.mp (z ▸ c)
    · rw [if_neg c, List.mem_append, List.mem_singleton, e]
theorem dd_nodup (vs : List Int) : (dd vs).Nodup ∧ (dd vs).length ≤ vs.length := by
  suffices h : ∀ (n : Nat) (vs : List Int), vs.length = n → (dd vs).Nodup ∧ (dd vs).length ≤ vs.length from h _ vs rfl
  intro n
  induction n with
  | zero =>
    intro vs h
    rw [List.length_eq_zero_iff.mp h]
    exact ⟨List.nodup_nil, Nat.le_refl _⟩
  | succ n ih =>
    intro vs h
    obtain ⟨ws, y, rfl⟩ : ∃ ws y, vs = ws ++ [y] := ⟨vs.dropLast, vs.getLast (by intro z; rw [z] at h; cases h), (List.dropLast_concat_getLast _).symm⟩
    have hw : ws.length = n := by simpa using h
    obtain ⟨a, b⟩ := ih ws hw
    rw [dd_snoc, List.length_append]
    by_cases c : y ∈ dd ws
    · rw [if_pos c]
      exact ⟨a, by omega⟩
    · rw [if_neg c, List.length_append]
      refine ⟨List.nodup_append.mpr ⟨a, by simp, ?_⟩, Nat.add_le_add_right b 1⟩
      intro x hx y' hy z
      rw [List.mem_singleton] at hy
      exact c (by rw [← hy, ← z]; exact hx)
theorem dd_set (vs : List Int) (y : Int) : (fun j => decide (j ∈ dd vs) || decide (j = y)) = (fun j => decide (j ∈ dd (vs ++ [y]))) ∧ (if decide (y ∈ dd vs) = true then (dd vs).length else (dd vs).length + 1) = (dd (vs ++ [y])).length := by
  constructor
  · funext j
    rw [Bool.eq_iff_iff]
    simp only [Bool.or_eq_true, decide_eq_true_eq, dd_mem, List.mem_append, List.mem_singleton]
  · rw [dd_snoc]
    by_cases c : y ∈ dd vs
    · rw [if_pos (decide_eq_true c), if_pos c]
    · rw [if_neg (by simpa using c), if_neg c, List.length_append]
      rfl
/-! ### the lengths by place -/
structure Lens (n : Nat) (g L : Int) (i : Nat) (rows : List (List Int)) : Prop where
  len : rows.length = i + 1
  zero : rows[0]? = some [L]
  asc : ∀ (p : Nat) (r : List Int), rows[p]? = some r → r.Pairwise (· < ·)
  mem : ∀ (p : Nat) (r : List Int), rows[p]? = some r → ∀ x ∈ r, 0 ≤ x ∧ x ≤ L
  next : ∀ (p : Nat) (r r' : List Int), rows[p]? = some r → rows[p + 1]? = some r' → ∀ x, x ∈ r' ↔ (∃ l ∈ r, ∃ k, 2 ≤ k ∧ k ≤ g ∧ x = la l k) ∧ x ≤ up (n - (p + 1)) 1
  short : L < 63 ∨ ∀ (p : Nat) (r : List Int), rows[p]? = some r → r.length ≤ 6
theorem Lens.start {n : Nat} {g L : Int} (h0 : 0 ≤ L) : Lens n g L 0 [[L]] where
  len := rfl
  zero := rfl
  asc := fun p r e => by
    match p, e with
    | 0, e => cases e; exact List.pairwise_singleton _ _
  mem := fun p r e x hx => by
    match p, e with
    | 0, e =>
      cases e
      rw [List.mem_singleton.mp hx]
      exact ⟨h0, Int.le_refl _⟩
  next := fun p r r' e e' => by
    match p, e' with
    | 0, e' => cases e'
    | p + 1, e' => cases e'
  short := .inr fun p r e => by
    match p, e with
    | 0, e => cases e; exact (show 1 ≤ 6 by decide)
theorem asc_nodup {ns : List Int} (h : ns.Pairwise (· < ·)) : ns.Nodup := List.Pairwise.imp (fun {a b} z e => by omega) h
/-- one place more -/
theorem Lens.more {n : Nat} {g L : Int} {i : Nat} {rows : List (List Int)} {r : List Int} {ns : List Int} (S : Lens n g L i rows) (hr : rows[i]? = some r) (h0 : 0 ≤ L) (hi : i < n) (lim : L < 63 ∨ (n ≤ 4 ∧ g ≤ 7))
    (asc : ns.Pairwise (· < ·)) (mem : ∀ x, x ∈ ns ↔ ∃ l ∈ r, ∃ k, 2 ≤ k ∧ k ≤ g ∧ x = la l k) (few : ns.length ≤ r.length * (g - 1).toNat) :
    Lens n g L (i + 1) (rows ++ [ns.filter fun x => decide (x ≤ up (n - (i + 1)) 1)]) := by
  have len := S.len
  have last : ∀ p q, (rows ++ [ns.filter fun x => decide (x ≤ up (n - (i + 1)) 1)])[p]? = some q → rows[p]? = some q ∨ (p = i + 1 ∧ q = ns.filter fun x => decide (x ≤ up (n - (i + 1)) 1)) := fun p q e => by
    by_cases c : p < rows.length
    · rw [List.getElem?_append_left c] at e
      exact .inl e
    · rw [List.getElem?_append_right (by omega)] at e
      have hp : p = rows.length := by
        have := (List.getElem?_eq_some_iff.mp e).1
        simp at this
        omega
      rw [hp, Nat.sub_self] at e
      cases e
      exact .inr ⟨by omega, rfl⟩
  have bnd : ∀ x ∈ ns, 0 ≤ x ∧ x ≤ L := fun x hx => by
    obtain ⟨l, hl, k, k1, k2, rfl⟩ := (mem x).mp hx
    have a := S.mem i r hr l hl
    have b := la_le k1 a.1
    omega
  have sub : ∀ x ∈ ns.filter (fun x => decide (x ≤ up (n - (i + 1)) 1)), x ∈ ns ∧ x ≤ up (n - (i + 1)) 1 := fun x hx => by
    obtain ⟨a, b⟩ := List.mem_filter.mp hx
    exact ⟨a, of_decide_eq_true b⟩
  refine ⟨by rw [List.length_append, len]; rfl, ?_, fun p q e => ?_, fun p q e x hx => ?_, fun p q q' e e' x => ?_, ?_⟩
  · rw [List.getElem?_append_left (by omega)]
    exact S.zero
  · rcases last p q e with e | ⟨_, rfl⟩
    · exact S.asc p q e
    · exact asc.filter _
  · rcases last p q e with e | ⟨_, rfl⟩
    · exact S.mem p q e x hx
    · exact bnd x (sub x hx).1
  · rcases last (p + 1) q' e' with e' | ⟨hp, rfl⟩
    · have lt := (List.getElem?_eq_some_iff.mp e').1
      rcases last p q e with e | ⟨hp, _⟩
      · exact S.next p q q' e e' x
      · omega
    · have hp' : p = i := by omega
      subst hp'
      rcases last p q e with e | ⟨hp, _⟩
      · rw [hr] at e
        cases e
        rw [List.mem_filter, mem x, decide_eq_true_eq]
      · omega
  · rcases lim with l | ⟨n4, g7⟩
    · exact .inl l
    · rcases S.short with l | sh
      · exact .inl l
      · refine .inr fun p q e => ?_
        rcases last p q e with e | ⟨hp, rfl⟩
        · exact sh p q e
        · by_cases z : i = 0
          · subst z
            have e0 := S.zero
            rw [hr] at e0
            cases e0
            have := List.length_filter_le (fun x => decide (x ≤ up (n - (0 + 1)) 1)) ns
            have h1 : [L].length = 1 := rfl
            rw [h1] at few
            omega
          · have nd := (asc_nodup asc).filter (fun x => decide (x ≤ up (n - (i + 1)) 1))
            have := few_ints (L := 4) nd (fun x hx => ⟨(bnd x (sub x hx).1).1, Int.le_trans (sub x hx).2 (up_mono (v := 1) (by decide) (j := 2) (by omega))⟩) (by decide)
            omega
end Sq

set_option Elab.async false
set_option linter.all false
set_option maxHeartbeats 1000000
/-! The least run with more, from the last replacement to the first; reaches of parts; how great they grow. -/
namespace Sq
open L2
theorem least_step {k R : Int} (hk : 2 ≤ k) (hR : 1 ≤ R) : (R + 1 - (if R + 1 < k - 1 then R + 1 else k - 1)) * k + (if R + 1 < k - 1 then R + 1 else k - 1) = rw1 k R + 1 := by
  unfold rw1
  by_cases c : R + 1 < k - 1
  · rw [if_pos c, if_pos (show k > R + 1 by omega), Int.sub_self, Int.zero_mul, Int.zero_add]
  · rw [if_neg c]
    by_cases d : k > R + 1
    · rw [if_pos d, show k = R + 2 by omega, show R + 1 - (R + 2 - 1) = 0 by omega, Int.zero_mul]
      omega
    · rw [if_neg d, show R + 1 - (k - 1) = R + 3 - k - 1 by omega, Int.sub_mul (R + 3 - k) 1 k, Int.one_mul]
      omega
def lback (ks : List Int) (v : Int) : Int := ks.foldl (fun R k => rw1 k R) v
theorem lback_rev (ks : List Int) (v : Int) : lback ks.reverse v = rch ks v := by
  unfold lback
  rw [List.foldl_reverse]
  rfl
theorem rch_app (ks ls : List Int) (v : Int) : rch (ks ++ ls) v = rch ks (rch ls v) := by
  unfold rch
  rw [List.foldr_append]
theorem lback_pos : ∀ (ks : List Int) (v : Int), (∀ k ∈ ks, 2 ≤ k) → 1 ≤ v → 1 ≤ lback ks v
  | [], _, _, h => h
  | k :: ks, v, h, hv => lback_pos ks (rw1 k v) (fun x hx => h x (List.mem_cons_of_mem _ hx)) (rch_pos [k] v (fun x hx => by rw [List.mem_singleton.mp hx]; exact h k (List.mem_cons_self ..)) hv)
theorem rw1_grow {k R : Int} (hk : 2 ≤ k) (hR : 1 ≤ R) : rw1 k R + 3 ≤ (R + 3) * k := by
  have e : (R + 3) * 2 ≤ (R + 3) * k := Int.mul_le_mul_of_nonneg_left hk (by omega)
  unfold rw1
  by_cases d : k > R + 1
  · rw [if_pos d]
    omega
  · rw [if_neg d, Int.sub_mul]
    have : 2 * 2 ≤ k * k := Int.mul_le_mul hk hk (by decide) (by omega)
    omega
theorem rch_grow : ∀ (ks : List Int) (v B : Int), (∀ k ∈ ks, 2 ≤ k ∧ k ≤ B) → 1 ≤ v → rch ks v + 3 ≤ (v + 3) * B ^ ks.length
  | [], v, B, _, _ => by
    rw [show rch [] v = v from rfl, List.length_nil, Int.pow_zero]
    omega
  | k :: ks, v, B, h, hv => by
    have hk := h k (List.mem_cons_self ..)
    have ht : ∀ x ∈ ks, 2 ≤ x ∧ x ≤ B := fun x hx => h x (List.mem_cons_of_mem _ hx)
    have p := rch_pos ks v (fun x hx => (ht x hx).1) hv
    have ih := rch_grow ks v B ht hv
    have g := rw1_grow hk.1 p
    show rw1 k (rch ks v) + 3 ≤ (v + 3) * B ^ (ks.length + 1)
    rw [Int.pow_succ, ← Int.mul_assoc]
    have a : (rch ks v + 3) * k ≤ ((v + 3) * B ^ ks.length) * k := Int.mul_le_mul_of_nonneg_right ih (by omega)
    have b : ((v + 3) * B ^ ks.length) * k ≤ ((v + 3) * B ^ ks.length) * B := Int.mul_le_mul_of_nonneg_left hk.2 (by omega)
    omega
theorem cut_drop (xs : List V) (n : Nat) (h : n ≤ xs.length) : cutV xs (some (n : Int)) none = xs.drop n := by
  unfold cutV
  rw [HT.sIx_nat, HT.sIx_none, Nat.min_eq_left h]
  exact List.take_of_length_le (by rw [List.length_drop]; exact Nat.le_refl _)
end Sq

set_option Elab.async false
set_option linter.all false
set_option maxHeartbeats 1000000
/-! Small numbers as texts. -/
namespace Sq
open PySem PySem.Spec PyProof.Rows L2
theorem digN {i : Int} (a : 0 ≤ i) (b : i ≤ 200) : (Str.ofString (toString i)).length ≤ 40 := by
  have e := int_text_length_le10 (k := 31) (by decide) (show i.natAbs < 10 ^ 31 from Nat.lt_of_le_of_lt (m := 200) (by omega) (by decide))
  rw [PySem.ofString_length]
  omega
theorem catN (x y : Str) (n : Nat) (hx : x.length ≤ n) (hy : y.length ≤ 40) : (x ++ y).length ≤ n + 40 := by
  rw [strLen_append]
  omega
theorem fitN {x y : Str} (hx : x.length ≤ 400) (hy : y.length ≤ 400) : x.length + y.length ≤ sizeLine := by
  rw [sizeLine_eq]
  omega
theorem logN (i : Int) (a : 0 ≤ i) (b : i ≤ 200) : i.natAbs.log2 < 1920 := Nat.lt_trans (PySem.Flt.log2_lt_of (by decide) (show i.natAbs < 2 ^ 8 by omega)) (by decide)
theorem rep_one {α : Type} (x : α) : ∀ n : Nat, (List.replicate n [x]).flatten = List.replicate n x
  | 0 => rfl
  | n + 1 => by
    rw [List.replicate_succ, List.flatten_cons, rep_one x n, List.replicate_succ]
    rfl
end Sq

set_option Elab.async false
set_option linter.all false
set_option maxRecDepth 100000
set_option maxHeartbeats 1000000
/-! What is asked of the handled error in its suite, whatever its class. -/
namespace Sq
open PySem PySem.Spec PyProof.Rows L2
section
variable {X : Cx} {p : Addr × Obj} {cls : Value} {d : Option Addr}
def rIsiG (K : PySem.W.Frag) (a : Addr) (cls : Value) (d : Option Addr) : List V → Hp → VK → Prop := fun xs H Q => ∃ (C dd : Addr) (v c : V) (u : Value) (b : Bool), cls = .ref C ∧ d = some dd ∧ xs = [.ref a, c] ∧ ClsV c u ∧ H dd = some (exd dd [(("value" : Str), v)]) ∧ ExcC K C ∧ PySem.W.kitOne K (.ref C) u = some b ∧ Q (.bl b) H
theorem call_isiG (hp : p ∈ X.pn) (hz : L2N.Zn cls d p.2) (hf : ∃ vs, p.2.data = .fields vs) : CallR X (.builtin "isinstance") (rIsiG X.K p.1 cls d) := by
  intro pins s σ H xs us Q I r h
  obtain ⟨C, dd, v, c, u, b, rfl, rfl, e1, e2, e3, e4, e5, q⟩ := h
  exact call_isiP (C := C) (d := dd) hp hz hf pins s σ H xs us Q I r ⟨v, c, u, b, e1, e2, e3, e4, e5, q⟩
def rIsiGT (K : PySem.W.Frag) (a : Addr) (cls : Value) (d : Option Addr) : List V → Hp → VK → Prop := fun xs H Q => ∃ (C dd tp : Addr) (v : V) (cs : List V) (us : List Value) (b : Bool), cls = .ref C ∧ d = some dd ∧ xs = [.ref a, .ref tp] ∧ H tp = some (.tup cs) ∧ Paired ClsV cs us ∧ H dd = some (exd dd [(("value" : Str), v)]) ∧ ExcC K C ∧ PySem.W.kitAny K (.ref C) us = some b ∧ Q (.bl b) H
theorem call_isiGT (hp : p ∈ X.pn) (hz : L2N.Zn cls d p.2) (hf : ∃ vs, p.2.data = .fields vs) : CallR X (.builtin "isinstance") (rIsiGT X.K p.1 cls d) := by
  intro pins s σ H xs vs Q I r h
  obtain ⟨C, dd, tp, v, cs, us, b, rfl, rfl, rfl, ht, pc, at_, T, e, q⟩ := h
  obtain ⟨u1, u2, rfl, r1, r2⟩ := vals2 r
  obtain rfl : u1 = Value.ref p.1 := r1
  obtain rfl : u2 = Value.ref tp := r2
  obtain ⟨od, uv, J, _, _⟩ := pin_obj I hp hz hf at_
  obtain ⟨few, its, rv, ob, there, isT, n, data⟩ := (show ObjOk X.prog X.w H s.heap tp (.tup cs) from I.hok tp _ ht)
  have same := ClsV.all pc rv
  subst same
  obtain ⟨oc, dct, dt, sl⟩ := ob
  simp only at isT data
  subst isT data
  exact PySem.W.kia_tup (SqX.kit (ox := p.2) (od := some od) T) I.kIn J there e (fun z => nomatch z) fun tk => ⟨.bl b, H, I.tok tk, rfl, q⟩
def tGv (K : PySem.W.Frag) (a : Addr) (cls : Value) (d : Option Addr) (te : TE) : TE := fun σ H Q => te σ H fun x H1 => ∃ (C dd : Addr) (v : V), cls = .ref C ∧ d = some dd ∧ x = .ref a ∧ H1 dd = some (exd dd [(("value" : Str), v)]) ∧ XfC K C ∧ PySem.W.findIn K (.ref C) "value" = some none ∧ Q v H1
theorem pe_gv {e : Expr} {te : TE} {pos : Pos} (hp : p ∈ X.pn) (hz : L2N.Zn cls d p.2) (hf : ∃ vs, p.2.data = .fields vs) (he : PE X e te) (hb : attributeBase e "value" X.env (eval e X.env) = eval e X.env := by rfl) : PE X (.Attribute e "value" pos) (tGv X.K p.1 cls d te) := by
  refine ⟨fun pins s σ H Q I h => ?_⟩
  refine attr_of hb (thn (he.run pins s σ H _ I h) fun u s1 hh => ?_)
  obtain ⟨x, H1, I1, rx, C, dd, v, rfl, rfl, ex, at_, T, hno, q⟩ := hh
  subst ex
  obtain rfl : u = Value.ref p.1 := rx
  obtain ⟨od, uv, J, l, ru⟩ := pin_obj I1 hp hz hf at_
  exact HandSPX.exc_get I1.kIn J T.ga T.gg T.exC (PySem.W.findObj_own T.hdC hno rfl l) (handed_of ru) ⟨v, H1, I1.tok _, ru, q⟩
end
section
variable {X : Cx} {a : Addr} {oe : Obj} {cls : Value} {d : Option Addr} {pn : List (Addr × Obj)}
theorem call_isiS (hz : L2N.Zn cls d oe) (hf : ∃ vs, oe.data = .fields vs) : CallR (X.suite a ((a, oe) :: pn)) (.builtin "isinstance") (rIsiG X.K a cls d) := call_isiG (X := X.suite a ((a, oe) :: pn)) (p := (a, oe)) List.mem_cons_self hz hf
theorem call_isiST (hz : L2N.Zn cls d oe) (hf : ∃ vs, oe.data = .fields vs) : CallR (X.suite a ((a, oe) :: pn)) (.builtin "isinstance") (rIsiGT X.K a cls d) := call_isiGT (X := X.suite a ((a, oe) :: pn)) (p := (a, oe)) List.mem_cons_self hz hf
theorem pe_sv {e : Expr} {te : TE} {pos : Pos} (hz : L2N.Zn cls d oe) (hf : ∃ vs, oe.data = .fields vs) (he : PE (X.suite a ((a, oe) :: pn)) e te) (hb : attributeBase e "value" X.env (eval e X.env) = eval e X.env := by rfl) :
    PE (X.suite a ((a, oe) :: pn)) (.Attribute e "value" pos) (tGv X.K a cls d te) := pe_gv (X := X.suite a ((a, oe) :: pn)) (p := (a, oe)) List.mem_cons_self hz hf he hb
end
end Sq

set_option Elab.async false
set_option linter.all false
set_option maxRecDepth 100000
set_option maxHeartbeats 1000000
/-! A def that may raise, called where it doesn't; keywords of such a def. -/
namespace Sq
open PySem PySem.Spec PyProof.Rows L2
/-- as a def that lets nothing out -/
theorem calmly {P : Program} {w : World} {K : PySem.W.Frag} {mg : Str → Option Value} {base : Heap} {k : Nat} {f : Addr} {fd : FuncData} {ps : List Str} {sp : Sp} (G : FnOk P w K mg base (L2N.CX P w) k f fd ps sp) :
    FnOk P w K mg base CX0 k f fd ps (fun vs H Q _ => sp vs H Q fun _ _ _ => False) := by
  refine ⟨fun vs H Q E h => G.len _ _ _ _ h, fun A outer s H args us vs Q E hr e0 hb hv h => ?_⟩
  refine codeAny_mono (G.run A outer s H args us vs Q (fun _ _ _ => False) hr e0 hb hv h) fun r s' hq => ?_
  cases r with
  | error u =>
    obtain ⟨_, _, _, _, _, _, _, _, _, _, _, _, z⟩ := (show L2N.CX P w outer H s (fun _ _ _ => False) u s' from hq)
    exact z.elim
  | ok fl =>
    cases fl with
    | ret u => exact hq
    | next => exact hq
    | brk => exact hq
    | cont => exact hq
structure Dnk (P : Program) (w : World) (K : PySem.W.Frag) (mg : Str → Option Value) (base : Heap) (k : Nat) (x : Str) (ps ks : List Str) (g : List Value → List Value → List Value) (gV : List V → List V → List V) (sp : Sp) : Prop where
  ex : ∃ f fd, FnOk P w K mg base (L2N.CX P w) k f fd ps sp ∧ mg x = some (.ref f) ∧ PySem.W.keepIn K (.ref f) = true ∧ KBn K fd ps 0 ks g gV
theorem kbn_mk {K : PySem.W.Frag} {x qual : Str} {st : Stmt} {f : Addr} {fd : FuncData} {ps : List Str} (F : Fun K x qual st f fd) (ks : List Str) (g : List Value → List Value → List Value) (gV : List V → List V → List V)
    (rel : ∀ {vs : List V} {us : List Value} {zs : List V} {ws : List Value}, Vals vs us → Vals zs ws → Vals (gV vs zs) (g us ws))
    (h : ∀ (kV doc pm : Value) (an : Option Addr) (cdv ct : Value) (ws : List Value), ws.length = ks.length → bindArgs (PySem.W.fnOf x qual (defArgs st) (defBody st) (defScope st) .none kV doc pm an cdv ct) ⟨[], ks.zip ws⟩ = pure (ps.zip (g [] ws))) : KBn K fd ps 0 ks g gV := by
  obtain ⟨oc, od, kV, doc, pm, an, cdv, ct, osl, rfl, lk, hcd⟩ := F.ex
  refine ⟨fun s us ws X l1 l2 => ?_, rel⟩
  obtain rfl : us = [] := List.length_eq_zero_iff.mp l1
  exact .of_eq (h kV doc pm an cdv ct ws l2)
/-- three values in another order -/
def perm3 {α : Type} (i j k : Nat) : List α → List α → List α := fun _ zs => match zs with
  | [x, y, z] => [[x, y, z].getD i x, [x, y, z].getD j x, [x, y, z].getD k x]
  | _ => []
def perm4 {α : Type} (i j k l : Nat) : List α → List α → List α := fun _ zs => match zs with
  | [x, y, z, u] => [[x, y, z, u].getD i x, [x, y, z, u].getD j x, [x, y, z, u].getD k x, [x, y, z, u].getD l x]
  | _ => []
end Sq

set_option Elab.async false
set_option linter.all false
set_option maxRecDepth 100000
set_option maxHeartbeats 4000000
set_option exponentiation.threshold 2000
namespace Sq
open PySem PySem.Spec PyProof.Rows L2
/-! ### the text -/
def topS (i : Nat) : Stmt := PySem.Challenge.pw_squeezelists_k15_lists_read_back.main.body.getD i (.Pass ⟨0, 0, 0, 0⟩)
abbrev s_lengthafterone : Stmt := topS 3
theorem sc_lengthafterone : FnScope ["length", "number", "groups", "left"] ["length", "number"] (defScope s_lengthafterone) := ⟨rfl, rfl, rfl, by decide +kernel, rfl, by decide +kernel, by decide +kernel⟩
abbrev s_manyforone : Stmt := topS 1
theorem sc_manyforone : FnScope ["length", "number"] ["length", "number"] (defScope s_manyforone) := ⟨rfl, rfl, rfl, by decide +kernel, rfl, by decide +kernel, by decide +kernel⟩
abbrev s_listof : Stmt := topS 5
theorem sc_listof : FnScope ["singles", "found", "present", "number", "after", "length"] ["singles"] (defScope s_listof) := ⟨rfl, rfl, rfl, by decide +kernel, rfl, by decide +kernel, by decide +kernel⟩
abbrev s_lawsource : Stmt := topS 7
theorem sc_lawsource : FnScope ["script", "mix", "digits", "cell", "span"] ["script"] (defScope s_lawsource) := ⟨rfl, rfl, rfl, by decide +kernel, rfl, by decide +kernel, by decide +kernel⟩
abbrev s_lawdraw : Stmt := topS 8
theorem sc_lawdraw : FnScope ["source", "many", "drawn", "mixed"] ["source", "many"] (defScope s_lawdraw) := ⟨rfl, rfl, rfl, by decide +kernel, rfl, by decide +kernel, by decide +kernel⟩
abbrev s_lawsame : Stmt := topS 9
theorem sc_lawsame : FnScope ["found", "wanted", "k"] ["found", "wanted"] (defScope s_lawsame) := ⟨rfl, rfl, rfl, by decide +kernel, rfl, by decide +kernel, by decide +kernel⟩
abbrev s_lawonce : Stmt := topS 10
theorem sc_lawonce : FnScope ["run", "one"] ["run", "one"] (defScope s_lawonce) := ⟨rfl, rfl, rfl, by decide +kernel, rfl, by decide +kernel, by decide +kernel⟩
abbrev s_lawsqueezed : Stmt := topS 11
theorem sc_lawsqueezed : FnScope ["run", "row", "one"] ["run", "row"] (defScope s_lawsqueezed) := ⟨rfl, rfl, rfl, by decide +kernel, rfl, by decide +kernel, by decide +kernel⟩
abbrev s_lawrow : Stmt := topS 12
theorem sc_lawrow : FnScope ["source", "many", "wide", "way", "again", "found", "time", "some"] ["source", "many", "wide"] (defScope s_lawrow) := ⟨rfl, rfl, rfl, by decide +kernel, rfl, by decide +kernel, by decide +kernel⟩
abbrev s_lawproducts : Stmt := topS 14
theorem sc_lawproducts : FnScope ["top", "found", "waiting", "row", "left", "one"] ["top"] (defScope s_lawproducts) := ⟨rfl, rfl, rfl, by decide +kernel, rfl, by decide +kernel, by decide +kernel⟩
abbrev s_lawsingles : Stmt := topS 15
theorem sc_lawsingles : FnScope ["row", "top", "run"] ["row", "top"] (defScope s_lawsingles) := ⟨rfl, rfl, rfl, by decide +kernel, rfl, by decide +kernel, by decide +kernel⟩
abbrev s_lawshuffled : Stmt := topS 16
theorem sc_lawshuffled : FnScope ["source", "some", "left", "time"] ["source", "some"] (defScope s_lawshuffled) := ⟨rfl, rfl, rfl, by decide +kernel, rfl, by decide +kernel, by decide +kernel⟩
abbrev s_lawdue : Stmt := topS 17
theorem sc_lawdue : FnScope ["some", "top", "found", "row"] ["some"] (defScope s_lawdue) := ⟨rfl, rfl, rfl, by decide +kernel, rfl, by decide +kernel, by decide +kernel⟩
abbrev s_lawdueruns : Stmt := topS 19
theorem sc_lawdueruns : FnScope ["row", "found", "one", "longer", "run", "rest"] ["row"] (defScope s_lawdueruns) := ⟨rfl, rfl, rfl, by decide +kernel, rfl, by decide +kernel, by decide +kernel⟩
abbrev s_lawgreatright : Stmt := topS 18
theorem sc_lawgreatright : FnScope ["source", "row", "top", "some", "time", "one", "many", "longer", "run", "rest", "at", "few", "told"] ["source"] (defScope s_lawgreatright) := ⟨rfl, rfl, rfl, by decide +kernel, rfl, by decide +kernel, by decide +kernel⟩
abbrev s_law : Stmt := topS 20
theorem sc_law : FnScope ["script", "source", "k", "row", "top", "one", "some", "saved", "told", "turn", "few", "run", "time", "fixed"] ["script"] (defScope s_law) := ⟨rfl, rfl, rfl, by decide +kernel, rfl, by decide +kernel, by decide +kernel⟩
end Sq

set_option Elab.async false
set_option linter.all false
set_option maxRecDepth 100000
set_option maxHeartbeats 4000000
namespace Sq
open PySem PySem.Spec PyProof.Rows L2
section
variable {P : Program} {w : World} {K : PySem.W.Frag} {mg : Str → Option Value} {base : Heap}
def spOnceS : Sp := fun vs H Q _ => ∃ (n k : Int), vs = [.int n, .int k] ∧ 2 ≤ k ∧ k < 1073741824 ∧ ∀ H', Same H H' → Q (.int (once n k)) H'
theorem ok_lengthafterone {f : Addr} {fd : FuncData} (F : Fun K "length_after_one" "length_after_one" s_lengthafterone f fd) (B : Bi mg) : FnOk P w K mg base CX0 1 f fd ["length", "number"] spOnceS := by
  refine F.ok sc_lengthafterone (fun vs H Q E h => ?_) (fun cdv A outer s H vs Q E hr h => ?_)
  · obtain ⟨n, k, rfl, _⟩ := h
    rfl
  · obtain ⟨n, k, rfl, k1, k2, q⟩ := h
    refine ⟨_, (pss_cons (ps_asg (pe_callB (id := "divmod") call_divmod (by rfl) B.n_divmod (by decide +kernel) (pa_cons (pv 0) (pa_cons (pv 1) pa_nil))) (pg_tup rfl (pgs_cons (pg_name (i := 2) sc_lengthafterone.nd rfl (Or.inl rfl)) (pgs_cons (pg_name (i := 3) sc_lengthafterone.nd rfl (Or.inl rfl)) pgs_nil))))
 (pss_one (ps_ret (pe_op op_add (pv 2) (pv 3))))), ?_⟩
    refine ⟨_, rfl, _, rfl, n, k, rfl, ⟨by omega, k2⟩, fun p hp => ?_⟩
    exact ⟨p, _, rfl, .inl (.inl upd_same), rfl, _, _, rfl, _, _, rfl, rfl, _, rfl, _, rfl, _, _, rfl, rfl, q _ (same_new hp)⟩
def spMany : Sp := fun vs H Q _ => ∃ (m k : Int), vs = [.int m, .int k] ∧ 2 ≤ k ∧ 1 ≤ m ∧ Q (.int (manyOne k m : Nat)) H
theorem ok_manyforone {f : Addr} {fd : FuncData} (F : Fun K "many_for_one" "many_for_one" s_manyforone f fd) (B : Bi mg) : FnOk P w K mg base CX0 1 f fd ["length", "number"] spMany := by
  refine F.ok sc_manyforone (fun vs H Q E h => ?_) (fun cdv A outer s H vs Q E hr h => ?_)
  · obtain ⟨m, k, rfl, _⟩ := h
    rfl
  · obtain ⟨m, k, rfl, k1, m1, q⟩ := h
    refine ⟨_, (pss_one (ps_ret (pe_callB (id := "min") (call_min2 rfl) (by rfl) B.n_min (by decide +kernel) (pa_cons (pv 1) (pa_cons (pe_op op_add (pv 0) pe_int) pa_nil))))), ?_⟩
    refine ⟨_, rfl, _, rfl, m, 1, rfl, rfl, k, m + 1, rfl, ?_⟩
    have e : (if m + 1 < k then m + 1 else k) = (manyOne k m : Nat) := by
      unfold manyOne
      split <;> omega
    rw [e]
    exact q
def spListOf (K : PySem.W.Frag) : Sp := fun vs H Q _ => ∃ (a : Addr) (S : List Int), vs = [.ref a] ∧ SqL K H a (S.map V.int) ∧ S.Nodup ∧ S.length ≤ 4000 ∧ (∀ n ∈ S, 1 ≤ n ∧ n < 1073741824) ∧
  ((∀ row, ¬ Right S row) → ∀ H', Same H H' → Q .non H') ∧ (∀ row, Right S row → ∀ p H', H p = none → Same H H' → H' p = some (.lst (row.map V.int)) → Q (.ref p) H')
end
end Sq

set_option Elab.async false
set_option linter.all false
set_option maxRecDepth 100000
set_option maxHeartbeats 4000000
namespace Sq
open PySem PySem.Spec PyProof.Rows L2
theorem walkI {J : It} {n : Nat} {G : Hp → Prop} {Y : Nat → Hp → V → Hp → Prop} (Wk : Walk J n G Y) {Qd : Hp → Prop} {St : V → Hp → (Hp → Prop) → Prop} {H0 : Hp} (Pv : Nat → Hp → Prop) (h0 : Pv 0 H0) (hl : ∀ i H, i ≤ n → Pv i H → G H)
    (hs : ∀ i x H H', i < n → Pv i H → Y i H x H' → St x H' (Pv (i + 1))) (hd : ∀ H, Pv n H → Qd H) :
    ∃ W : Nat → Nat → Hp → Prop, (∃ m, W 0 m H0) ∧ ∀ i m H, W i m H → (J.stop i H ∧ Qd H) ∨ (J.go i H ∧ ∃ Nx : Hp → Prop, (∀ H', Nx H' → ∃ m', m' < m ∧ W (i + 1) m' H') ∧ ∀ x H', J.yld i H x H' → St x H' Nx) := by
  refine ⟨fun i m H => m = n - i ∧ i ≤ n ∧ Pv i H, ⟨_, rfl, Nat.zero_le _, h0⟩, ?_⟩
  rintro i m H ⟨rfl, le, p⟩
  have there := hl i H le p
  by_cases lt : i < n
  · exact .inr ⟨Wk.goes i H lt there, Pv (i + 1), fun H' p' => ⟨n - (i + 1), by omega, rfl, lt, p'⟩, fun x H' y => hs i x H H' lt p (Wk.yields i H x H' lt there y)⟩
  · obtain rfl : i = n := by omega
    exact .inl ⟨Wk.stops H there, hd H p⟩
theorem sum_cast (g : Int → Nat) : ∀ xs : List Int, (xs.map fun m => ((g m : Nat) : Int)).sum = (((xs.map g).sum : Nat) : Int)
  | [] => rfl
  | x :: xs => by
    rw [List.map_cons, List.sum_cons, List.map_cons, List.sum_cons, sum_cast g xs, Int.natCast_add]
theorem once_down {n k : Int} (hk : 2 ≤ k) (h0 : 0 ≤ n) : once n k ≤ n := by
  unfold once
  have e := Int.mul_ediv_add_emod n k
  have q0 := Int.ediv_nonneg h0 (show 0 ≤ k by omega)
  have m : 1 * (n / k) ≤ k * (n / k) := Int.mul_le_mul_of_nonneg_right (by omega) q0
  omega
theorem at_neg {α : Type} {xs : List α} {j : Nat} (h1 : 1 ≤ j) (h : j ≤ xs.length) : atI xs (-(j : Int)) = xs[xs.length - j]? := by
  unfold atI ixN
  rw [if_neg (by omega), if_pos (by omega)]
  show xs[_]? = _
  congr 1
  omega
section
variable {P : Program} {w : World} {K : PySem.W.Frag} {mg : Str → Option Value} {base : Heap}
theorem ok_listof {f : Addr} {fd : FuncData} (F : Fun K "list_of" "list_of" s_listof f fd) (B : Bi mg) (D_lengthafterone : Df P w K mg base 1 "length_after_one" ["length", "number"] spOnceS) (D_manyforone : Df P w K mg base 1 "many_for_one" ["length", "number"] spMany) : FnOk P w K mg base CX0 2 f fd ["singles"] (spListOf K) := by
  refine F.ok sc_listof (fun vs H Q E h => ?_) (fun cdv A outer s H vs Q E hr h => ?_)
  · obtain ⟨a, S, rfl, _⟩ := h
    rfl
  · obtain ⟨a, S, rfl, hS, nd, few, hb, qn, qr⟩ := h
    refine ⟨_, (pss_cons (ps_set (i := 1) sc_listof.nd rfl (Or.inl rfl) (pe_lst pa_nil))
 (pss_cons (ps_set (i := 2) sc_listof.nd rfl (Or.inl rfl) (pe_callB (id := "sorted") (r := rSortedI K) cr_sortedI (by rfl) B.n_sorted (by decide +kernel) (pa_cons (pv 0) pa_nil)))
 (pss_cons (ps_while PassesOwn.never (pt_cmpR op_gt (pe_callB (id := "len") (r := rLenK K) call_lenK (by rfl) B.n_len (by decide +kernel) (pa_cons (pv 2) pa_nil)) pe_int (nomark _))
 (pss_cons (ps_set (i := 3) sc_listof.nd rfl (Or.inr rfl) (pe_op op_add (pe_op op_sub (pe_ix (r := rIxL K) ix_list (pv 2) (pe_un un_neg pe_int) (fun _ _ => rfl)) (pe_ix (r := rIxL K) ix_list (pv 2) (pe_un un_neg pe_int) (fun _ _ => rfl))) pe_int))
 (pss_cons (ps_set (i := 4) sc_listof.nd rfl (Or.inl rfl) (pe_callB (id := "sorted") (r := rSortedSetI w) (cr_sortedSetI rfl) (by rfl) B.n_sorted (by decide +kernel) (pa_cons (pe_sc1 (own := [("length", 5)]) (g := gName 5) rfl sc_listof.nd (pi_list (pv 2)) (blkOk_by (own := [("length", 5)]) (N := ["singles", "found", "present", "number", "after", "length"]) (sc := defScope s_listof) (by decide +kernel)) (fun _ _ _ _ _ => (pg_name (i := 5) sc_listof.nd rfl (Or.inl rfl))) (fun _ _ _ _ _ => pts_nil) (fun _ _ _ _ _ => (pe_callD D_lengthafterone (hr.mono (by omega)) (by rfl) (pa_cons (pv 5) (pa_cons (pv 3) pa_nil))))) pa_nil)))
 (pss_cons (ps_if (pt_cmpR op_ne (pe_callB (id := "sum") (r := rSum K) (cr_sum rfl) (by rfl) B.n_sum (by decide +kernel) (pa_cons (pe_lc (own := [("length", 5)]) (g := gName 5) rfl sc_listof.nd (pi_list (pv 4)) (blkOk_by (own := [("length", 5)]) (N := ["singles", "found", "present", "number", "after", "length"]) (sc := defScope s_listof) (by decide +kernel)) (fun _ _ _ _ _ => (pg_name (i := 5) sc_listof.nd rfl (Or.inl rfl))) (fun _ _ _ _ _ => pts_nil) (fun _ _ _ _ _ => (pe_callD D_manyforone (hr.mono (by omega)) (by rfl) (pa_cons (pv 5) (pa_cons (pv 3) pa_nil))))) pa_nil)) (pe_callB (id := "len") (r := rLenK K) call_lenK (by rfl) B.n_len (by decide +kernel) (pa_cons (pv 2) pa_nil)) (nomark _))
 (pss_one (ps_ret pe_non))
 pss_nil)
 (pss_cons (ps_expr (pe_bm PySem.F.plainAttrs_list PySem.F.slot_list_append PySem.F.type_list_append mt_append (pv 1) (pa_cons (pv 3) pa_nil)))
 (pss_one (ps_set (i := 2) sc_listof.nd rfl (Or.inl rfl) (pv 4))))))))
 (pss_one (ps_ret (pe_ifExp (pt_cmpR (op_eqD hr.units) (pv 2) (pe_lst (pa_cons pe_int pa_nil)) (nomark _)) (pv 1) pe_non)))))), ?_⟩
    have lim : sizeLine = 16777216 := sizeLine_eq
    refine ⟨Nat.zero_le _, fun p hp => ?_⟩
    have gp0 : (upd H p (.lst [])) p = some (.lst (([] : List Int).map V.int)) := upd_same
    have s0 : Same H (upd H p (.lst [])) := same_new hp
    generalize upd H p (.lst []) = H1 at gp0 s0 ⊢
    refine ⟨_, rfl, a, S, rfl, s0.seq hS, fun ps0 r0 pm up hr0 => ?_⟩
    have np0 : r0 ≠ p := fun z => by rw [z, gp0] at hr0; cases hr0
    have s1 : Same H1 (upd H1 r0 (.lst (ps0.map V.int))) := same_new hr0
    have g1 : (upd H1 r0 (.lst (ps0.map V.int))) r0 = some (.lst (ps0.map V.int)) := upd_same
    have gp1 := s1 _ _ gp0
    generalize upd H1 r0 (.lst (ps0.map V.int)) = H2 at s1 g1 gp1 ⊢
    have up0 : ps0.Pairwise (· < ·) := by
      have n0 : ps0.Nodup := pm.nodup_iff.mpr nd
      exact (up.and n0).imp fun {x y} h => Int.lt_iff_le_and_ne.mpr h
    have e0 : ∀ row, Right S row ↔ ∃ rest, row = [] ++ rest ∧ Right ps0 rest := fun row => by
      rw [right_cong (T := ps0) fun n => pm.mem_iff.symm]
      exact ⟨fun R => ⟨row, rfl, R⟩, fun ⟨_, e, R⟩ => by rw [List.nil_append] at e; exact e ▸ R⟩
    refine ⟨fun m σ H' => ∃ r ps fd y3 y4, σ = [some (.ref a), some (.ref p), some (.ref r), y3, y4, none] ∧ Same H (wo H' p) ∧ H' p = some (.lst (fd.map V.int)) ∧ H' r = some (.lst (ps.map V.int)) ∧ r ≠ p ∧ ps.Pairwise (· < ·) ∧ (∀ n ∈ ps, 1 ≤ n ∧ n < 1073741824) ∧ ps.length = m ∧ fd.length + ps.length ≤ S.length ∧ (∀ row, Right S row ↔ ∃ rest, row = fd ++ rest ∧ Right ps rest),
      ⟨_, r0, ps0, [], none, none, rfl, same_wo (s0.trans s1) hp, gp1, g1, np0, up0, fun n hn => hb n (pm.mem_iff.mp hn), rfl, by rw [pm.length_eq]; exact Nat.le_of_eq (Nat.zero_add _), e0⟩, ?_⟩
    rintro m σ H' ⟨r, ps, fd, y3, y4, rfl, s2, gp, gr, nrp, up, pos, hm, hl, eq⟩
    have pos1 : ∀ n ∈ ps, 1 ≤ n := fun n h => (pos n h).1
    have ndp : ps.Nodup := up.imp fun {x y} h => Int.ne_of_lt h
    refine ⟨_, rfl, r, _, rfl, .inl (SqL.of gr), _, 1, rfl, rfl, _, rfl, ?_⟩
    rw [List.length_map]
    by_cases c : (1 : Int) < (ps.length : Int)
    · rw [decide_eq_true c]
      refine iteT ?_
      obtain ⟨zs, y, x, ezs⟩ : ∃ zs y x, ps = zs ++ [y, x] := by
        have hlen : 2 ≤ ps.length := by omega
        refine ⟨ps.take (ps.length - 2), ps[ps.length - 2], ps[ps.length - 1], ?_⟩
        conv => lhs; rw [← List.take_append_drop (ps.length - 2) ps]
        congr 1
        rw [List.drop_eq_getElem_cons (by omega)]
        congr 1
        rw [show ps.length - 2 + 1 = ps.length - 1 by omega, List.drop_eq_getElem_cons (by omega), show ps.length - 1 + 1 = ps.length by omega, List.drop_length]
      have hx := pos x (by rw [ezs]; simp)
      have hy := pos y (by rw [ezs]; simp)
      have yx : y < x := by
        rw [ezs] at up
        exact (List.pairwise_cons.mp (List.pairwise_append.mp up).2.1).1 x List.mem_cons_self
      have lz : ps.length = zs.length + 2 := by rw [ezs, List.length_append]; rfl
      refine ⟨fun σ' H'' => ∃ m', m' < m ∧ ∃ r ps fd y3 y4, σ' = [some (.ref a), some (.ref p), some (.ref r), y3, y4, none] ∧ Same H (wo H'' p) ∧ H'' p = some (.lst (fd.map V.int)) ∧ H'' r = some (.lst (ps.map V.int)) ∧ r ≠ p ∧ ps.Pairwise (· < ·) ∧ (∀ n ∈ ps, 1 ≤ n ∧ n < 1073741824) ∧ ps.length = m' ∧ fd.length + ps.length ≤ S.length ∧ (∀ row, Right S row ↔ ∃ rest, row = fd ++ rest ∧ Right ps rest), fun σ' H'' h => h, ?_⟩
      have at1 : atI (ps.map V.int) (-1) = some (.int x) := by
        rw [show (-1 : Int) = -((1 : Nat) : Int) from rfl, at_neg (by decide) (by rw [List.length_map]; omega), List.length_map, List.getElem?_map, ezs, List.length_append, show zs.length + [y, x].length - 1 = zs.length + 1 from rfl, List.getElem?_append_right (by omega), show zs.length + 1 - zs.length = 1 by omega]
        rfl
      have at2 : atI (ps.map V.int) (-2) = some (.int y) := by
        rw [show (-2 : Int) = -((2 : Nat) : Int) from rfl, at_neg (by decide) (by rw [List.length_map]; omega), List.length_map, List.getElem?_map, ezs, List.length_append, show zs.length + [y, x].length - 2 = zs.length from rfl, List.getElem?_append_right (by omega), show zs.length - zs.length = 0 by omega]
        rfl
      refine ⟨_, rfl, 1, rfl, r, _, -1, .int x, rfl, rfl, SqL.of gr, at1, _, rfl, 2, rfl, r, _, -2, .int y, rfl, rfl, SqL.of gr, at2, _, _, rfl, rfl, _, 1, rfl, rfl, ?_⟩
      have k2 : 2 ≤ x - y + 1 := by omega
      obtain ⟨k, ek⟩ : ∃ k, k = x - y + 1 := ⟨_, rfl⟩
      dsimp only
      rw [← ek] at k2 ⊢
      refine ⟨_, rfl, r, rfl, ⟨_, SqL.of gr⟩, fun D hD => walkI (walk_list (K := K) (a := r) (xs := ps.map V.int)) (fun i H'' => Same H' (wo H'' D) ∧ ∃ (Sf : Int → Bool) (n : Nat), H'' D = some (SetO w D Sf n) ∧ n ≤ i ∧ ∀ c, Sf c = true ↔ ∃ z ∈ ps.take i, once z k = c) ⟨by rw [wo_upd]; exact same_wo (Same.refl _) hD, _, _, upd_same, Nat.le_refl _, fun c => ⟨fun h => Bool.noConfusion h, fun ⟨z, hz, _⟩ => absurd hz (by simp)⟩⟩ (fun i H'' _ h => SqL.of (wo_same _ _ (h.1 _ _ gr))) ?_ ?_⟩
      · rintro i v H3 H4 hi ⟨s3, Sf, n, gD, ni, mem⟩ ⟨rfl, ev⟩
        obtain ⟨z, ez, rfl⟩ := map_at ev
        rw [List.length_map] at hi
        refine ⟨rfl, ?_⟩
        refine ⟨_, rfl, _, rfl, z, k, rfl, k2, by omega, fun H5 s5 => ⟨_, Sf, n, rfl, s5 _ _ gD, ?_, ?_, _, _, upd_same, ?_, ?_⟩⟩
        · show n + 1 < 4096
          omega
        · rw [wo_upd]
          intro b o e
          have nb : b ≠ D := ne_of_none e hD
          have := s3 b o e
          rw [wo_ne nb] at this ⊢
          exact s5 b o this
        · split <;> omega
        · intro c
          rw [List.take_add_one, ez, Bool.or_eq_true, mem c]
          constructor
          · rintro (⟨z', h1, h2⟩ | h)
            · exact ⟨z', List.mem_append_left _ h1, h2⟩
            · exact ⟨z, List.mem_append_right _ (by simp), (of_decide_eq_true h).symm⟩
          · rintro ⟨z', h1, h2⟩
            rcases List.mem_append.mp h1 with h | h
            · exact .inl ⟨z', h, h2⟩
            · have : z' = z := by simpa using h
              exact .inr (decide_eq_true (by rw [← h2, this]))
      rintro H3 ⟨s3, Sf, n, gD, ni, mem⟩
      rw [List.length_map] at ni mem
      rw [List.take_length] at mem
      refine ⟨D, Sf, n, rfl, gD, by omega, fun after q upq memq lenq hq => ?_⟩
      have img : ∀ c, c ∈ after ↔ ∃ z ∈ ps, once z k = c := fun c => (memq c).trans (mem c)
      have nda : after.Nodup := upq.imp fun {x y} h => Int.ne_of_lt h
      have posa : ∀ c ∈ after, 1 ≤ c := fun c hc => by
        obtain ⟨z, hz, e⟩ := (img c).mp hc
        rw [← e]
        exact once_pos k2 (pos1 z hz)
      have sq0 := (s3.trans wo_same).trans (same_new (o := .lst (after.map V.int)) hq)
      have gq : (upd H3 q (.lst (after.map V.int))) q = some (.lst (after.map V.int)) := upd_same
      have gp4 := sq0 _ _ gp
      have gr4 := sq0 _ _ gr
      generalize upd H3 q (.lst (after.map V.int)) = H4 at sq0 gq gp4 gr4 ⊢
      refine ⟨_, rfl, q, rfl, ⟨_, SqL.of gq⟩, fun D2 hD2 => walkI (walk_list (K := K) (a := q) (xs := after.map V.int)) (fun i H'' => Same H4 (wo H'' D2) ∧ H'' D2 = some (.lst (((after.take i).map fun m => ((manyOne k m : Nat) : Int)).map V.int))) ⟨by rw [wo_upd]; exact same_wo (Same.refl _) hD2, upd_same⟩ (fun i H'' _ h => SqL.of (wo_same _ _ (h.1 _ _ gq))) ?_ ?_⟩
      · rintro i v H5 H6 hi ⟨s5, g5⟩ ⟨rfl, ev⟩
        obtain ⟨z, ez, rfl⟩ := map_at ev
        rw [List.length_map] at hi
        have lq : after.length ≤ 4096 := by omega
        refine ⟨rfl, ?_⟩
        refine ⟨_, rfl, _, rfl, z, k, rfl, k2, posa z (List.mem_of_getElem? ez), _, g5, ?_, ?_, ?_⟩
        · rw [List.length_map, List.length_map, List.length_take]
          omega
        · rw [wo_upd]
          exact s5
        · rw [upd_same, List.take_add_one, ez, List.map_append, List.map_append]
          rfl
      rintro H5 ⟨s5, g5⟩
      rw [List.length_map, List.take_length] at g5
      have s45 := s5.trans (wo_same (H := H5) (D := D2))
      refine ⟨D2, _, rfl, SqL.of g5, ?_⟩
      rw [sum_cast]
      refine ⟨_, rfl, r, _, rfl, .inl (SqL.of (s45 _ _ gr4)), rfl, _, rfl, ?_⟩
      have sF := (s2.trans (wo_same (H := H') (D := p))).trans (sq0.trans s45)
      rw [List.length_map]
      by_cases c2 : (after.map (manyOne k)).sum = ps.length
      · refine iteNS (congrArg V.int (by rw [c2])) ?_
        have gp5 := s45 _ _ gp4
        have gq5 := s45 _ _ gq
        have nqp : q ≠ p := fun z => by
          rw [z] at hq
          have := (s3.trans wo_same) _ _ gp
          rw [hq] at this
          cases this
        have mt := many_two k2 posa
        refine ⟨_, rfl, .inl ⟨rfl, _, SqL.of gp5⟩, _, rfl, p, _, .int k, rfl, rfl, gp5, by rw [List.length_map]; omega, ?_⟩
        refine ⟨_, rfl, after.length, by omega, q, after, fd ++ [k], _, _, rfl, ?_, ?_, ?_, nqp, upq, fun c hc => ⟨posa c hc, ?_⟩, rfl, ?_, fun row => ?_⟩
        · rw [wo_upd]
          exact same_wo sF hp
        · rw [upd_same, List.map_append]
          rfl
        · rw [upd_ne nqp]
          exact gq5
        · obtain ⟨z, hz, e⟩ := (img c).mp hc
          have := once_down k2 (show 0 ≤ z by have := pos1 z hz; omega)
          have := (pos z hz).2
          omega
        · rw [List.length_append]
          show fd.length + 1 + _ ≤ _
          omega
        · rw [eq row]
          constructor
          · rintro ⟨rest, e1, R2⟩
            obtain ⟨r2, er⟩ := right_first ezs up pos1 R2
            rw [← ek] at er
            subst er
            exact ⟨r2, by rw [e1, List.append_assoc]; rfl, (right_step k2 pos1 ndp nda img c2).mp R2⟩
          · rintro ⟨rest, e1, R2⟩
            exact ⟨k :: rest, by rw [e1, List.append_assoc]; rfl, (right_step k2 pos1 ndp nda img c2).mpr R2⟩
      · rw [decide_eq_false (fun z => c2 (by injection z with z; exact Int.ofNat.inj z))]
        refine iteT (qn (fun row R => ?_) _ sF)
        obtain ⟨rest, _, R2⟩ := (eq row).mp R
        obtain ⟨r2, er⟩ := right_first ezs up pos1 R2
        rw [← ek] at er
        exact right_none k2 pos1 ndp nda img c2 (er ▸ R2)
    · rw [decide_eq_false c]
      refine iteF ?_
      refine ⟨_, rfl, (by show 1 ≤ _; omega), fun t ht => ?_⟩
      have st := same_new (o := .lst [.int 1]) ht
      refine ⟨_, _, .lst (SqL.of (st _ _ gr)) (dp_ints ps), .lst (SqL.of (show (upd H' t (.lst [.int 1])) t = some (.lst (([1] : List Int).map V.int)) from upd_same)) (dp_ints [1]), shaped_ints ps, shaped_ints [1], _, rfl, ?_⟩
      rw [eqv_ints]
      have sf := (s2.trans (wo_same (H := H') (D := p))).trans st
      by_cases c1 : ps = [1]
      · rw [decide_eq_true c1]
        refine iteT ⟨_, rfl, qr fd ((eq fd).mpr ⟨[], (List.append_nil _).symm, by rw [c1]; exact (right_one []).mpr rfl⟩) p _ hp sf (st _ _ gp)⟩
      · rw [decide_eq_false c1]
        refine iteF (qn (fun row R => ?_) _ sf)
        obtain ⟨rest, _, R2⟩ := (eq row).mp R
        exact right_few (by omega) c1 R2
end
end Sq

set_option Elab.async false
set_option linter.all false
set_option maxRecDepth 100000
set_option maxHeartbeats 4000000
set_option exponentiation.threshold 2000
namespace Sq
open PySem PySem.Spec PyProof.Rows L2
/-! ### the source of draws: at l, its digits at d -/
def M61 : Int := 2305843009213693951
structure Src (H : Hp) (l d : Addr) (mix cnt : Int) : Prop where
  ob : ∃ cur ds, H l = some (.lst [.ref d, .int cur, .int mix, .int cnt]) ∧ H d = some (.lst (List.map V.int ds))
  m0 : 0 ≤ mix
  m1 : mix < M61
  c0 : 0 ≤ cnt
  ne : l ≠ d
/-- all but the two lists is as it was -/
def Keep (H H' : Hp) (l d : Addr) : Prop := ∀ b o, H b = some o → b ≠ l → b ≠ d → H' b = some o
theorem Keep.refl (H : Hp) (l d : Addr) : Keep H H l d := fun _ _ h _ _ => h
theorem Keep.trans {H H1 H2 : Hp} {l d : Addr} (a : Keep H H1 l d) (b : Keep H1 H2 l d) : Keep H H2 l d := fun c o h n1 n2 => b c o (a c o h n1 n2) n1 n2
theorem Keep.of {H H' : Hp} {l d : Addr} (s : Same H H') : Keep H H' l d := fun b o h _ _ => s b o h
theorem Keep.l {H H' : Hp} {l d : Addr} {o : HO} (a : Keep H H' l d) : Keep H (upd H' l o) l d := fun c x h n1 n2 => by
  rw [upd_ne n1]
  exact a c x h n1 n2
theorem Keep.d {H H' : Hp} {l d : Addr} {o : HO} (a : Keep H H' l d) : Keep H (upd H' d o) l d := fun c x h n1 n2 => by
  rw [upd_ne n2]
  exact a c x h n1 n2
theorem Keep.new {H H' : Hp} {l d p : Addr} {o : HO} (a : Keep H H' l d) (h : H' p = none) : Keep H (upd H' p o) l d := a.trans (Keep.of (same_new h))
theorem Keep.seq {K : PySem.W.Frag} {H H' : Hp} {a l d : Addr} {xs : List V} (e : Keep H H' l d) (n1 : a ≠ l) (n2 : a ≠ d) (h : SqL K H a xs) : SqL K H' a xs := by
  rcases h with (h | ⟨o, h⟩) | h
  · exact .inl (.inl (e _ _ h n1 n2))
  · exact .inl (.inr ⟨o, e _ _ h n1 n2⟩)
  · exact .inr h
theorem Src.same {H H' : Hp} {l d : Addr} {mix cnt : Int} (S : Src H l d mix cnt) (s : Same H H') : Src H' l d mix cnt :=
  let ⟨cur, ds, h1, h2⟩ := S.ob
  ⟨⟨cur, ds, s _ _ h1, s _ _ h2⟩, S.m0, S.m1, S.c0, S.ne⟩
def spDraw : Sp := fun vs H Q _ => ∃ (l d : Addr) (mix cnt many : Int), vs = [.ref l, .int many] ∧ Src H l d mix cnt ∧ cnt < 1000000 ∧ 0 < many ∧ many.natAbs < 2 ^ 500 ∧
  ∀ z cnt' H', 0 ≤ z → z < many → Src H' l d mix cnt' → cnt' ≤ cnt + 1 → Keep H H' l d → Q (.int z) H'
theorem m61_small (x : Int) : (x % ((2 : Int) ^ (61 : Int).toNat - 1)).natAbs < 2 ^ 64 := by
  have h1 := Int.emod_nonneg x (show (2 : Int) ^ (61 : Int).toNat - 1 ≠ 0 by decide)
  have h2 := Int.emod_lt_of_pos x (show 0 < (2 : Int) ^ (61 : Int).toNat - 1 by decide)
  have e : (2 : Int) ^ (61 : Int).toNat - 1 = 2305843009213693951 := by decide
  rw [e] at h1 h2 ⊢
  omega
theorem Keep.free {H H' : Hp} {l d p : Addr} {mix cnt : Int} (k : Keep H H' l d) (S : Src H' l d mix cnt) (h : H' p = none) : H p = none := by
  obtain ⟨cur, ds, h1, h2⟩ := S.ob
  cases e : H p with
  | none => rfl
  | some o =>
    have := k p o e (fun z => by rw [z, h1] at h; cases h) (fun z => by rw [z, h2] at h; cases h)
    rw [h] at this
    cases this
theorem Src.nel {H : Hp} {l d p : Addr} {mix cnt : Int} (S : Src H l d mix cnt) (h : H p = none) : p ≠ l := fun z => by
  obtain ⟨cur, ds, h1, h2⟩ := S.ob
  rw [z, h1] at h
  cases h
theorem Src.ned {H : Hp} {l d p : Addr} {mix cnt : Int} (S : Src H l d mix cnt) (h : H p = none) : p ≠ d := fun z => by
  obtain ⟨cur, ds, h1, h2⟩ := S.ob
  rw [z, h2] at h
  cases h
section
variable {P : Program} {w : World} {K : PySem.W.Frag} {mg : Str → Option Value} {base : Heap}
theorem ok_lawdraw {f : Addr} {fd : FuncData} (F : Fun K "_law_draw" "_law_draw" s_lawdraw f fd) : FnOk P w K mg base CX0 1 f fd ["source", "many"] spDraw := by
  refine F.ok sc_lawdraw (fun vs H Q E h => ?_) (fun cdv A outer s H vs Q E hr h => ?_)
  · obtain ⟨l, d, mix, cnt, many, rfl, _⟩ := h
    rfl
  · obtain ⟨l, d, mix, cnt, many, rfl, S, hc, hm, hw, q⟩ := h
    refine ⟨_, (pss_cons (ps_while PassesOwn.never (PW.pt (pw_and (pt_cmpR op_lt (pe_ix (r := rIxL K) ix_list (pv 0) pe_int (fun _ _ => rfl)) pe_int (nomark _)) (pw_and1 (pt_cmpR (op_neD hr.units) (pe_ix (r := rIxL K) ix_list (pv 0) pe_int (fun _ _ => rfl)) (pe_lst pa_nil) (nomark _)))))
 (pss_one (ps_asg (pe_bm PySem.F.plainAttrs_list PySem.F.slot_list_pop PySem.F.type_list_pop mt_popAt (pe_ix (r := rIxL K) ix_list (pv 0) pe_int (fun _ _ => rfl)) (pa_cons pe_int pa_nil)) (pg_sub (pv 0) pe_int set_list))))
 (pss_cons (ps_if (pt_cmpR op_ge (pe_ix (r := rIxL K) ix_list (pv 0) pe_int (fun _ _ => rfl)) pe_int (nomark _))
 (pss_cons (ps_set (i := 2) sc_lawdraw.nd rfl (Or.inl rfl) (pe_op op_mod (pe_ix (r := rIxL K) ix_list (pv 0) pe_int (fun _ _ => rfl)) (pv 1)))
 (pss_cons (ps_asg (pe_op op_fdivW (pe_ix (r := rIxL K) ix_list (pv 0) pe_int (fun _ _ => rfl)) (pv 1)) (pg_sub (pv 0) pe_int set_list))
 (pss_one (ps_ret (pv 2)))))
 pss_nil)
 (pss_cons (ps_asg (pe_op op_add (pe_ix (r := rIxL K) ix_list (pv 0) pe_int (fun _ _ => rfl)) pe_int) (pg_sub (pv 0) pe_int set_list))
 (pss_cons (ps_set (i := 3) sc_lawdraw.nd rfl (Or.inl rfl) (pe_op op_mul (pe_op op_add (pe_ix (r := rIxL K) ix_list (pv 0) pe_int (fun _ _ => rfl)) pe_int) (pe_op op_pow (pe_op op_add (pe_ix (r := rIxL K) ix_list (pv 0) pe_int (fun _ _ => rfl)) pe_int) pe_int)))
 (pss_cons (ps_set (i := 3) sc_lawdraw.nd rfl (Or.inl rfl) (pe_op op_mod (pe_op op_add (pv 3) (pe_op op_mul pe_int (pe_ix (r := rIxL K) ix_list (pv 0) pe_int (fun _ _ => rfl)))) (pe_op op_sub (pe_op op_pow pe_int pe_int) pe_int)))
 (pss_one (ps_ret (pe_op op_mod (pe_op op_fdiv (pe_op op_mod (pe_op op_pow (pv 3) pe_int) (pe_op op_add (pe_op op_pow pe_int pe_int) pe_int)) pe_int) (pv 1))))))))), ?_⟩
    have c0 := S.c0
    have m0 := S.m0
    have m1 := S.m1
    have nld := S.ne
    -- while source[1] < 2 and source[0] != []
    obtain ⟨cur0, ds0, hl0, hd0⟩ := S.ob
    refine ⟨fun m σ H' => σ = [some (.ref l), some (.int many), none, none] ∧ Keep H H' l d ∧ ∃ cur ds, H' l = some (.lst [.ref d, .int cur, .int mix, .int cnt]) ∧ H' d = some (.lst (List.map V.int ds)) ∧ ds.length = m,
      ⟨_, rfl, Keep.refl H l d, cur0, ds0, hl0, hd0, rfl⟩, ?_⟩
    rintro m σ H' ⟨rfl, kp, cur, ds, hl, hd, hm2⟩
    refine tell (fun H2 => Same H' H2 ∧ ds ≠ []) (fun H2 => Same H' H2) (fun Q' hT hF => ?_) (fun H2 h => ?_) (fun H2 h => ?_)
    · refine ⟨_, rfl, l, _, 1, _, rfl, rfl, SqL.of hl, rfl, cur, 2, rfl, rfl, _, rfl, ite2 (fun c1 => ?_) (fun c1 => hF _ (Same.refl _))⟩
      refine ⟨_, rfl, l, _, 0, _, rfl, rfl, SqL.of hl, rfl, Nat.zero_le _, fun p hp => ?_⟩
      have npd : d ≠ p := ne_of_none hd hp
      refine ⟨_, _, .lst (SqL.of (show (upd H' p (.lst [])) d = _ by rw [upd_ne npd]; exact hd)) (dp_ints ds), .lst (SqL.of upd_same) .nil, shaped_ints ds, shaped_ints [], _, rfl, ?_⟩
      cases ds with
      | nil => exact hF _ (same_new hp)
      | cons x r => exact hT _ ⟨same_new hp, List.cons_ne_nil _ _⟩
    · refine iteT ?_
      obtain ⟨sm, nn⟩ := h
      obtain ⟨x, r, rfl⟩ : ∃ x r, ds = x :: r := by
        cases ds with
        | nil => exact absurd rfl nn
        | cons x r => exact ⟨x, r, rfl⟩
      have hl2 := sm _ _ hl
      have hd2 := sm _ _ hd
      refine ⟨fun σ' H'' => σ' = [some (.ref l), some (.int many), none, none] ∧ Keep H H'' l d ∧ H'' l = some (.lst [.ref d, .int x, .int mix, .int cnt]) ∧ H'' d = some (.lst (List.map V.int r)), ?_, ?_⟩
      · rintro σ' H'' ⟨e1, e2, e3, e4⟩
        exact ⟨r.length, by rw [← hm2, List.length_cons]; omega, e1, e2, _, _, e3, e4, rfl⟩
      refine ⟨_, rfl, l, _, 0, _, rfl, rfl, SqL.of hl2, rfl, .inl ⟨rfl, _, SqL.of hd2⟩, d, _, 0, 0, .int x, rfl, rfl, hd2, by decide, by decide, seqIndex_of (Int.le_refl 0) (by rw [List.length_map, List.length_cons]; omega), rfl, ?_⟩
      refine ⟨_, rfl, l, _, 1, 1, rfl, rfl, (show (upd H2 d _) l = _ by rw [upd_ne nld]; exact hl2), rfl, ?_⟩
      refine ⟨rfl, ((kp.trans (.of sm)).d).l, upd_same, ?_⟩
      rw [upd_ne nld.symm, upd_same]
      rfl
    · refine iteF ?_
      have kp2 := kp.trans (Keep.of h)
      have hl2 := h _ _ hl
      have hd2 := h _ _ hd
      clear hl hd hl0 hd0 hm2
      refine ⟨_, rfl, l, _, 1, _, rfl, rfl, SqL.of hl2, rfl, cur, 2, rfl, rfl, _, rfl, ite2 (fun c1 => ?_) (fun c1 => ?_)⟩
      · -- drawn = source[1] % many
        refine ⟨_, rfl, l, _, 1, _, rfl, rfl, SqL.of hl2, rfl, _, rfl, cur, many, rfl, rfl, hm, ?_⟩
        refine ⟨_, rfl, l, _, 1, _, rfl, rfl, SqL.of hl2, rfl, _, rfl, cur, many, rfl, rfl, wide_div hm hw (by decide) (by decide), ?_⟩
        refine ⟨_, rfl, l, _, 1, 1, rfl, rfl, hl2, rfl, _, rfl, ?_⟩
        refine q _ cnt _ (Int.emod_nonneg _ (by omega)) (Int.emod_lt_of_pos _ hm) ⟨⟨cur / many, ds, upd_same, by rw [upd_ne nld.symm]; exact hd2⟩, m0, m1, c0, nld⟩ (by omega) kp2.l
      · refine ⟨_, rfl, l, _, 3, _, rfl, rfl, SqL.of hl2, rfl, cnt, 1, rfl, rfl, _, rfl, l, _, 3, 3, rfl, rfl, hl2, rfl, ?_⟩
        have hl3 : (upd H2 l (.lst [.ref d, .int cur, .int mix, .int (cnt + 1)])) l = some (.lst [.ref d, .int cur, .int mix, .int (cnt + 1)]) := upd_same
        have cc : (cnt + 1 + 3).natAbs < 2 ^ 64 := by omega
        refine ⟨_, rfl, l, _, 2, _, rfl, rfl, SqL.of hl3, rfl, mix, 7, rfl, rfl, _, rfl, l, _, 3, _, rfl, rfl, SqL.of hl3, rfl, cnt + 1, 3, rfl, rfl, cnt + 1 + 3, 3, rfl, rfl, ⟨by decide, by decide, cc⟩, mix + 7, _, rfl, rfl, .inl ⟨by omega, by unfold M61 at m1; omega⟩, ?_⟩
        refine ⟨_, rfl, _, rfl, l, _, 3, _, rfl, rfl, SqL.of hl3, rfl, 1000081, cnt + 1, rfl, rfl, .inl ⟨by decide, by decide⟩, _, _, rfl, rfl, 2, 61, rfl, rfl, ⟨by decide, by decide, by decide⟩, _, 1, rfl, rfl, _, _, rfl, rfl, (by decide : (0 : Int) < 2 ^ Int.toNat 61 - 1), ?_⟩
        refine ⟨_, rfl, _, 5, rfl, rfl, ⟨by decide, by decide, m61_small _⟩, 10, 18, rfl, rfl, ⟨by decide, by decide, by decide⟩, _, 9, rfl, rfl, _, _, rfl, rfl, (by decide : (0 : Int) < 10 ^ Int.toNat 18 + 9), _, 128, rfl, rfl, ⟨by decide, by decide⟩, _, rfl, _, many, rfl, rfl, hm, ?_⟩
        exact q _ (cnt + 1) _ (Int.emod_nonneg _ (by omega)) (Int.emod_lt_of_pos _ hm) ⟨⟨cur, ds, hl3, by rw [upd_ne nld.symm]; exact hd2⟩, m0, m1, by omega, nld⟩ (by omega) kp2.l
theorem m61_is : (2 : Int) ^ (61 : Int).toNat - 1 = M61 := by decide
def spSource (K : PySem.W.Frag) : Sp := fun vs H Q _ => ∃ (a : Addr) (ns : List Int), vs = [.ref a] ∧ SqL K H a (ns.map V.int) ∧ ns.length ≤ 63 ∧ ∀ l d mix H', H l = none → H d = none → Same H H' → Src H' l d mix 0 → Q (.ref l) H'
theorem ok_lawsource {f : Addr} {fd : FuncData} (F : Fun K "_law_source" "_law_source" s_lawsource f fd) (B : Bi mg) : FnOk P w K mg base CX0 1 f fd ["script"] (spSource K) := by
  refine F.ok sc_lawsource (fun vs H Q E h => ?_) (fun cdv A outer s H vs Q E hr h => ?_)
  · obtain ⟨a, ns, rfl, _⟩ := h
    rfl
  · obtain ⟨a, ns, rfl, hS, hn, q⟩ := h
    refine ⟨_, (pss_cons (ps_set (i := 1) sc_lawsource.nd rfl (Or.inl rfl) pe_int)
 (pss_cons (ps_set (i := 2) sc_lawsource.nd rfl (Or.inl rfl) (pe_lst pa_nil))
 (pss_cons (ps_for PassesOwn.never rfl (pi_list (pv 0)) (pg_name (i := 3) sc_lawsource.nd rfl (Or.inl rfl))
 (pss_cons (ps_set (i := 1) sc_lawsource.nd rfl (Or.inl rfl) (pe_op op_mod (pe_op op_add (pe_op op_mul (pv 1) pe_int) (pv 3)) (pe_op op_sub (pe_op op_pow pe_int pe_int) pe_int)))
 (pss_cons (ps_set (i := 4) sc_lawsource.nd rfl (Or.inl rfl) (pe_callB (id := "max") (call_max2 rfl) (by rfl) B.n_max (by decide +kernel) (pa_cons (pv 3) (pa_cons (pe_op op_sub pe_int (pv 3)) pa_nil))))
 (pss_one (ps_if (pt_cmpR op_ge (pv 4) (pe_op op_pow pe_int pe_int) (nomark _))
 (pss_one (ps_expr (pe_bm PySem.F.plainAttrs_list PySem.F.slot_list_append PySem.F.type_list_append mt_append (pv 2) (pa_cons (pe_op op_sub (pv 4) (pe_op op_pow pe_int pe_int)) pa_nil))))
 pss_nil)))))
 (pss_one (ps_ret (pe_lst (pa_cons (pv 2) (pa_cons pe_int (pa_cons (pv 1) (pa_cons pe_int pa_nil)))))))))), ?_⟩
    refine ⟨Nat.zero_le _, fun d hd => ?_⟩
    refine ⟨_, rfl, a, rfl, ⟨_, (same_new hd).seq hS⟩, for_list (K := K) (a := a) (xs := ns.map V.int) (fun i σ H' => Same H H' ∧ ∃ mix ds y3 y4, σ = [some (.ref a), some (.int mix), some (.ref d), y3, y4] ∧ 0 ≤ mix ∧ mix < M61 ∧ ds.length ≤ i ∧ H' d = some (.lst (List.map V.int ds)))
      ⟨same_new hd, 271828182845904, [], none, none, rfl, by decide, by decide, Nat.le_refl _, upd_same⟩ (fun i σ H' _ h => h.1.seq hS) ?_ ?_⟩
    · rintro i x σ H' hi ⟨sm, mix, ds, y3, y4, rfl, m0, m1, hlen, hdd⟩
      have hil : i < ns.length := by
        have := (List.getElem?_eq_some_iff.mp hi).1
        rwa [List.length_map] at this
      obtain ⟨c, hc, rfl⟩ := map_at hi
      refine ⟨_, rfl, mix, 1000033, rfl, rfl, .inr ⟨by decide, by decide⟩, _, rfl, _, c, rfl, rfl, 2, 61, rfl, rfl, ⟨by decide, by decide, by decide⟩, _, 1, rfl, rfl, _, _, rfl, rfl, (by decide : (0 : Int) < 2 ^ Int.toNat 61 - 1), ?_⟩
      rw [m61_is]
      have m0' : 0 ≤ (mix * 1000033 + c) % M61 := Int.emod_nonneg _ (by decide)
      have m1' : (mix * 1000033 + c) % M61 < M61 := Int.emod_lt_of_pos _ (by decide)
      refine ⟨_, rfl, _, rfl, 0, c, rfl, rfl, c, 0 - c, rfl, ?_⟩
      generalize (if 0 - c > c then 0 - c else c) = sp
      refine ⟨_, rfl, 10, 18, rfl, rfl, ⟨by decide, by decide, by decide⟩, _, _, rfl, rfl, _, rfl, ite2 (fun _ => ?_) (fun _ => ?_)⟩
      · refine ⟨_, rfl, .inl ⟨rfl, _, SqL.of hdd⟩, _, rfl, 10, 18, rfl, rfl, ⟨by decide, by decide, by decide⟩, _, _, rfl, rfl, d, _, _, rfl, rfl, hdd, (by rw [List.length_map]; exact small1000 (by omega)), ?_⟩
        refine ⟨fun b o e => ?_, (mix * 1000033 + c) % M61, ds ++ [sp - 10 ^ Int.toNat 18], _, _, rfl, m0', m1', by rw [List.length_append]; show ds.length + 1 ≤ i + 1; omega, ?_⟩
        · rw [upd_ne (ne_of_none e hd)]
          exact sm _ _ e
        · rw [upd_same, List.map_append]
          rfl
      · exact ⟨sm, (mix * 1000033 + c) % M61, ds, _, _, rfl, m0', m1', by omega, hdd⟩
    · rintro σ H' ⟨sm, mix, ds, y3, y4, rfl, m0, m1, hlen, hdd⟩
      refine ⟨_, rfl, _, rfl, (by show 4 ≤ sizeLine; exact Nat.le_of_lt (small1000 (by decide))), fun l hl => ?_⟩
      have ndl : d ≠ l := ne_of_none hdd hl
      refine q l d mix _ (sm.free hl) hd (sm.trans (same_new hl)) ⟨⟨0, ds, upd_same, by rw [upd_ne ndl]; exact hdd⟩, m0, m1, Int.le_refl 0, ndl.symm⟩

end

theorem at3 {a b c z : Int} (h0 : 0 ≤ z) (h : z < 3) : ∃ k, atI [V.int a, V.int b, V.int c] z = some (.int k) ∧ (k = a ∨ k = b ∨ k = c) := by
  have : z = 0 ∨ z = 1 ∨ z = 2 := by omega
  rcases this with e | e | e
  · subst e
    exact ⟨a, rfl, .inl rfl⟩
  · subst e
    exact ⟨b, rfl, .inr (.inl rfl)⟩
  · subst e
    exact ⟨c, rfl, .inr (.inr rfl)⟩
section
variable {P : Program} {w : World} {K : PySem.W.Frag} {mg : Str → Option Value} {base : Heap}
def spRow : Sp := fun vs H Q _ => ∃ (l d : Addr) (mix cnt many wide : Int), vs = [.ref l, .int many, .int wide] ∧ Src H l d mix cnt ∧ cnt < 500000 ∧ 0 ≤ many ∧ many ≤ 12 ∧ 2 ≤ wide ∧ wide < 1073741824 ∧
  ∀ p ks cnt' H', H p = none → Src H' l d mix cnt' → cnt' ≤ cnt + 3 + 2 * many → Keep H H' l d → H' p = some (.lst (List.map V.int ks)) → (ks.length : Int) ≤ many → (∀ k ∈ ks, 2 ≤ k ∧ k ≤ wide) → Q (.ref p) H'
theorem ok_lawrow {f : Addr} {fd : FuncData} (F : Fun K "_law_row" "_law_row" s_lawrow f fd) (B : Bi mg) (D_lawdraw : Df P w K mg base 1 "_law_draw" ["source", "many"] spDraw) : FnOk P w K mg base CX0 2 f fd ["source", "many", "wide"] spRow := by
  refine F.ok sc_lawrow (fun vs H Q E h => ?_) (fun cdv A outer s H vs Q E hr h => ?_)
  · obtain ⟨l, d, mix, cnt, many, wide, rfl, _⟩ := h
    rfl
  · obtain ⟨l, d, mix, cnt, many, wide, rfl, S, hc, hm0, hm1, hw0, hw1, q⟩ := h
    refine ⟨_, (pss_cons (ps_par (i := 3) (j := 4) (by rfl) sc_lawrow.nd rfl rfl (by decide) rfl rfl (pa_cons (pe_callD D_lawdraw (hr.mono (by omega)) (by rfl) (pa_cons (pv 0) (pa_cons pe_int pa_nil))) (pa_cons (pe_op op_add pe_int (pe_callD D_lawdraw (hr.mono (by omega)) (by rfl) (pa_cons (pv 0) (pa_cons (pe_op op_sub (pv 2) pe_int) pa_nil)))) pa_nil)) (by rfl))
 (pss_cons (ps_set (i := 5) sc_lawrow.nd rfl (Or.inl rfl) (pe_lst pa_nil))
 (pss_cons (ps_for PassesOwn.never rfl (pi_range1 (by rfl) B.n_range (pa_cons (pe_callD D_lawdraw (hr.mono (by omega)) (by rfl) (pa_cons (pv 0) (pa_cons (pe_op op_add (pv 1) pe_int) pa_nil))) pa_nil)) (pg_name (i := 6) sc_lawrow.nd rfl (Or.inl rfl))
 (pss_cons (ps_set (i := 7) sc_lawrow.nd rfl (Or.inl rfl) (pe_lst (pa_cons (pe_op op_add pe_int (pe_callD D_lawdraw (hr.mono (by omega)) (by rfl) (pa_cons (pv 0) (pa_cons (pe_op op_sub (pv 2) pe_int) pa_nil)))) (pa_cons (pe_op op_add pe_int (pe_callD D_lawdraw (hr.mono (by omega)) (by rfl) (pa_cons (pv 0) (pa_cons (pe_callB (id := "min") (call_min2 rfl) (by rfl) B.n_min (by decide +kernel) (pa_cons pe_int (pa_cons (pe_op op_sub (pv 2) pe_int) pa_nil))) pa_nil)))) (pa_cons (pv 4) pa_nil)))))
 (pss_one (ps_expr (pe_bm PySem.F.plainAttrs_list PySem.F.slot_list_append PySem.F.type_list_append mt_append (pv 5) (pa_cons (pe_ix (r := rIxL K) ix_list (pv 7) (pv 3) (fun _ _ => rfl)) pa_nil))))))
 (pss_one (ps_ret (pv 5)))))), ?_⟩
    refine ⟨_, rfl, l, d, mix, cnt, 3, rfl, S, by omega, by omega, by decide, fun z1 cnt1 H1 z10 z11 S1 hc1 k1 => ?_⟩
    refine ⟨_, rfl, _, rfl, wide, 1, rfl, rfl, l, d, mix, cnt1, wide - 1, rfl, S1, by omega, by omega, by omega, fun z2 cnt2 H2 z20 z21 S2 hc2 k2 => ?_⟩
    refine ⟨2, z2, rfl, rfl, _, _, rfl, ?_⟩
    -- found = []
    refine ⟨Nat.zero_le _, fun p hp => ?_⟩
    have npl := S2.nel hp
    have npd := S2.ned hp
    have k3 : Keep H (upd H2 p (.lst [])) l d := (k1.trans k2).new hp
    have hpH : H p = none := (k1.trans k2).free S2 hp
    have S3 : Src (upd H2 p (.lst [])) l d mix cnt2 := S2.same (same_new hp)
    -- for time in range(..)
    refine ⟨_, rfl, _, rfl, many, 1, rfl, rfl, l, d, mix, cnt2, many + 1, rfl, S3, by omega, by omega, by omega, fun z3 cnt3 H4 z30 z31 S4 hc3 k4 => ?_⟩
    have hp4 := k4 p _ upd_same npl npd
    refine ⟨z3, rfl, by omega, by omega, for_range (lo := 0) (n := z3.toNat) (fun i σ H' => ∃ ks cnt' y6 y7, σ = [some (.ref l), some (.int many), some (.int wide), some (.int z1), some (.int (2 + z2)), some (.ref p), y6, y7] ∧ Keep H H' l d ∧ Src H' l d mix cnt' ∧ cnt' ≤ cnt + 3 + 2 * i ∧ H' p = some (.lst (List.map V.int ks)) ∧ ks.length = i ∧ ∀ k ∈ ks, 2 ≤ k ∧ k ≤ wide)
      ⟨[], cnt3, none, none, rfl, k3.trans k4, S4, by omega, hp4, rfl, fun k h => by cases h⟩ ?_ ?_⟩
    · rintro i σ H5 hi ⟨ks, c5, y6, y7, rfl, k5, S5, hc5, hp5, hlen, hks⟩
      refine ⟨_, rfl, _, rfl, wide, 1, rfl, rfl, l, d, mix, c5, wide - 1, rfl, S5, by omega, by omega, by omega, fun z6 c6 H6 z60 z61 S6 hc6 k6 => ?_⟩
      refine ⟨2, z6, rfl, rfl, _, rfl, _, rfl, wide, 1, rfl, rfl, 4, wide - 1, rfl, ?_⟩
      have hmin : (0 : Int) < (if wide - 1 < 4 then wide - 1 else 4) ∧ (if wide - 1 < 4 then wide - 1 else 4) ≤ wide - 1 ∧ (if wide - 1 < 4 then wide - 1 else 4) ≤ 4 := by
        split <;> omega
      generalize (if wide - 1 < 4 then wide - 1 else 4) = mn at hmin
      refine ⟨l, d, mix, c6, mn, rfl, S6, by omega, by omega, by omega, fun z7 c7 H7 z70 z71 S7 hc7 k7 => ?_⟩
      have k57 := k6.trans k7
      have hp7 := k57 p _ hp5 npl npd
      refine ⟨2, z7, rfl, rfl, _, rfl, (by show 3 ≤ sizeLine; exact Nat.le_of_lt (small1000 (by decide))), fun t ht => ?_⟩
      have ntp : t ≠ p := fun z => by rw [z, hp7] at ht; cases ht
      obtain ⟨k, hk, hk3⟩ := at3 (a := 2 + z6) (b := 2 + z7) (c := 2 + z2) z10 z11
      have hp8 : (upd H7 t (.lst [.int (2 + z6), .int (2 + z7), .int (2 + z2)])) p = some (.lst (List.map V.int ks)) := by rw [upd_ne ntp.symm]; exact hp7
      refine ⟨_, rfl, .inl ⟨rfl, _, SqL.of hp8⟩, _, rfl, _, rfl, t, _, z1, .int k, rfl, rfl, SqL.of upd_same, hk, p, _, _, rfl, rfl, hp8, (by rw [List.length_map]; exact small1000 (by omega)), ?_⟩
      have S8 : Src (upd H7 t (.lst [.int (2 + z6), .int (2 + z7), .int (2 + z2)])) l d mix c7 := S7.same (same_new ht)
      have k8 : Keep H (upd H7 t (.lst [.int (2 + z6), .int (2 + z7), .int (2 + z2)])) l d := (k5.trans k57).new ht
      refine ⟨ks ++ [k], c7, _, _, rfl, ?_, ?_, by omega, ?_, by rw [List.length_append, hlen]; rfl, ?_⟩
      · intro b o e n1 n2
        have nb : b ≠ p := fun z => by rw [z, hpH] at e; cases e
        rw [upd_ne nb]
        exact k8 b o e n1 n2
      · obtain ⟨cur, ds, h1, h2⟩ := S8.ob
        exact ⟨⟨cur, ds, by rw [upd_ne npl.symm]; exact h1, by rw [upd_ne npd.symm]; exact h2⟩, S8.m0, S8.m1, S8.c0, S8.ne⟩
      · rw [upd_same, List.map_append]
        rfl
      · intro x hx
        rcases List.mem_append.mp hx with h | h
        · exact hks x h
        · have e := List.mem_singleton.mp h
          subst e
          omega
    · rintro σ H5 ⟨ks, c5, y6, y7, rfl, k5, S5, hc5, hp5, hlen, hks⟩
      refine ⟨_, rfl, ?_⟩
      exact q p ks c5 H5 hpH S5 (by omega) k5 hp5 (by omega) hks
end

/-! ### the same data -/
mutual
def ld : PyData → Bool
  | .none => true
  | .bool _ => true
  | .int _ => true
  | .str x => PyData.canLay0 (.str x)
  | .list xs => decide (xs.length ≤ 1000) && ldAll xs
  | _ => false
def ldAll : List PyData → Bool
  | [] => true
  | x :: xs => ld x && ldAll xs
end
theorem ld_at : ∀ {ds : List PyData} {i : Nat} {d : PyData}, ldAll ds = true → ds[i]? = some d → ld d = true
  | x :: xs, 0, d, h, e => by
    cases e
    exact (Bool.and_eq_true_iff.mp h).1
  | x :: xs, i + 1, d, h, e => ld_at (Bool.and_eq_true_iff.mp h).2 e
section
variable {P : Program} {w : World} {K : PySem.W.Frag} {mg : Str → Option Value} {base : Heap}
/-- both show the same data; n: its depth stays below it -/
def spSame (K : PySem.W.Frag) (n : Nat) : Sp := fun vs H Q _ => ∃ (x y : V) (d : PyData), vs = [x, y] ∧ Dp K H x d ∧ Dp K H y d ∧ ld d = true ∧ d.depth < n ∧ ∀ H', Same H H' → Q (.bl true) H'
theorem ok_lawsame_step {f : Addr} {fd : FuncData} {n : Nat} (F : Fun K "_law_same" "_law_same" s_lawsame f fd) (B : Bi mg) (D_lawsame : Df P w K mg base (n + 1) "_law_same" ["found", "wanted"] (spSame K n)) : FnOk P w K mg base CX0 (n + 2) f fd ["found", "wanted"] (spSame K (n + 1)) := by
  refine F.ok sc_lawsame (fun vs H Q E h => ?_) (fun cdv A outer s H vs Q E hr h => ?_)
  · obtain ⟨x, y, d, rfl, _⟩ := h
    rfl
  · obtain ⟨x, y, d, rfl, dx, dy, id', hdep, q⟩ := h
    refine ⟨_, (pss_cons (ps_if (pt_cmpR op_isN (pv 1) pe_non (nomark _))
 (pss_one (ps_ret (pe_cmpR op_isN (pv 0) pe_non (nomark _))))
 pss_nil)
 (pss_cons (ps_if (pt_val (pe_callB (id := "isinstance") call_isi (by rfl) B.n_isinstance (by decide +kernel) (pa_cons (pv 1) (pa_cons (pe_bltn (v := .ty "bool") (by rfl) B.n_bool (by decide +kernel) rfl) pa_nil))))
 (pss_one (ps_ret (pe_and (pe_callB (id := "isinstance") call_isi (by rfl) B.n_isinstance (by decide +kernel) (pa_cons (pv 0) (pa_cons (pe_bltn (v := .ty "bool") (by rfl) B.n_bool (by decide +kernel) rfl) pa_nil))) (pe_one (pe_cmpR (op_eqD hr.units) (pv 0) (pv 1) (nomark _))))))
 pss_nil)
 (pss_cons (ps_if (pt_val (pe_callB (id := "isinstance") call_isi (by rfl) B.n_isinstance (by decide +kernel) (pa_cons (pv 1) (pa_cons (pe_bltn (v := .ty "int") (by rfl) B.n_int (by decide +kernel) rfl) pa_nil))))
 (pss_one (ps_ret (pe_and (pe_callB (id := "isinstance") call_isi (by rfl) B.n_isinstance (by decide +kernel) (pa_cons (pv 0) (pa_cons (pe_bltn (v := .ty "int") (by rfl) B.n_int (by decide +kernel) rfl) pa_nil))) (pe_and (pe_not (pe_callB (id := "isinstance") call_isi (by rfl) B.n_isinstance (by decide +kernel) (pa_cons (pv 0) (pa_cons (pe_bltn (v := .ty "bool") (by rfl) B.n_bool (by decide +kernel) rfl) pa_nil)))) (pe_one (pe_cmpR (op_eqD hr.units) (pv 0) (pv 1) (nomark _)))))))
 pss_nil)
 (pss_cons (ps_if (pt_val (pe_callB (id := "isinstance") call_isi (by rfl) B.n_isinstance (by decide +kernel) (pa_cons (pv 1) (pa_cons (pe_bltn (v := .ty "str") (by rfl) B.n_str (by decide +kernel) rfl) pa_nil))))
 (pss_one (ps_ret (pe_and (pe_callB (id := "isinstance") call_isi (by rfl) B.n_isinstance (by decide +kernel) (pa_cons (pv 0) (pa_cons (pe_bltn (v := .ty "str") (by rfl) B.n_str (by decide +kernel) rfl) pa_nil))) (pe_one (pe_cmpR (op_eqD hr.units) (pv 0) (pv 1) (nomark _))))))
 pss_nil)
 (pss_cons (ps_if (pt_cmpR op_ne (pe_callB (id := "isinstance") call_isi (by rfl) B.n_isinstance (by decide +kernel) (pa_cons (pv 0) (pa_cons (pe_bltn (v := .ty "list") (by rfl) B.n_list (by decide +kernel) rfl) pa_nil))) (pe_callB (id := "isinstance") call_isi (by rfl) B.n_isinstance (by decide +kernel) (pa_cons (pv 1) (pa_cons (pe_bltn (v := .ty "list") (by rfl) B.n_list (by decide +kernel) rfl) pa_nil))) (nomark _))
 (pss_one (ps_ret pe_bl))
 pss_nil)
 (pss_cons (ps_if (PW.pt (pw_or (pt_cmpR op_ne (pe_callB (id := "isinstance") call_isi (by rfl) B.n_isinstance (by decide +kernel) (pa_cons (pv 0) (pa_cons (pe_bltn (v := .ty "tuple") (by rfl) B.n_tuple (by decide +kernel) rfl) pa_nil))) (pe_callB (id := "isinstance") call_isi (by rfl) B.n_isinstance (by decide +kernel) (pa_cons (pv 1) (pa_cons (pe_bltn (v := .ty "tuple") (by rfl) B.n_tuple (by decide +kernel) rfl) pa_nil))) (nomark _)) (pw_or1 (pt_cmpR op_ne (pe_callB (id := "len") (r := rLenK K) call_lenK (by rfl) B.n_len (by decide +kernel) (pa_cons (pv 0) pa_nil)) (pe_callB (id := "len") (r := rLenK K) call_lenK (by rfl) B.n_len (by decide +kernel) (pa_cons (pv 1) pa_nil)) (nomark _)))))
 (pss_one (ps_ret pe_bl))
 pss_nil)
 (pss_one (ps_ret (pe_cmpR (op_eqD hr.units) (pe_lc (own := [("k", 2)]) (g := gName 2) rfl sc_lawsame.nd (pi_range1 (by rfl) B.n_range (pa_cons (pe_callB (id := "len") (r := rLenK K) call_lenK (by rfl) B.n_len (by decide +kernel) (pa_cons (pv 1) pa_nil)) pa_nil)) (blkOk_by (own := [("k", 2)]) (N := ["found", "wanted", "k"]) (sc := defScope s_lawsame) (by decide +kernel)) (fun _ _ _ _ _ => (pg_name (i := 2) sc_lawsame.nd rfl (Or.inl rfl))) (fun _ _ _ _ _ => pts_one (pt_not (pt_val (pe_callD D_lawsame (hr.mono (by omega)) (by rfl) (pa_cons (pe_ix (r := rIxL K) ix_list (pv 0) (pv 2) (fun _ _ => rfl)) (pa_cons (pe_ix (r := rIxL K) ix_list (pv 1) (pv 2) (fun _ _ => rfl)) pa_nil)))))) (fun _ _ _ _ _ => (pv 2))) (pe_lst pa_nil) (nomark _)))))))))), ?_⟩
    match d, dx, dy, id', hdep, q with
    | .none, .non, .non, _, _, q =>
      refine ⟨_, rfl, rfl, _, rfl, ite2 (fun _ => ?_) (fun c => absurd (decide_eq_true rfl) c)⟩
      refine ⟨_, rfl, rfl, ?_⟩
      rw [decide_eq_true (rfl : V.non = V.non)]
      exact q H (Same.refl H)
    | .bool j, .bl _, .bl _, _, _, q =>
      refine ⟨_, rfl, rfl, _, rfl, ite2 (fun c => by cases of_decide_eq_true c) (fun _ => ?_)⟩
      refine ⟨_, rfl, _, _, _, _, true, rfl, .ty _, (.base (.bl j)), kit_ty (by decide +kernel), _, rfl, iteT ?_⟩
      refine ⟨_, rfl, _, _, _, _, true, rfl, .ty _, (.base (.bl j)), kit_ty (by decide +kernel), _, rfl, iteT ?_⟩
      refine ⟨_, rfl, _, rfl, _, _, .bl j, .bl j, rfl, rfl, ?_⟩
      rw [PySem.SeqAt.eqv_refl (.bool j) rfl]
      exact q H (Same.refl H)
    | .int j, .int _, .int _, _, _, q =>
      refine ⟨_, rfl, rfl, _, rfl, ite2 (fun c => by cases of_decide_eq_true c) (fun _ => ?_)⟩
      refine ⟨_, rfl, _, _, _, _, _, rfl, .ty _, (.base (.int j)), kit_ty (by decide +kernel), _, rfl, iteF ?_⟩
      refine ⟨_, rfl, _, _, _, _, _, rfl, .ty _, (.base (.int j)), kit_ty (by decide +kernel), _, rfl, iteT ?_⟩
      refine ⟨_, rfl, _, _, _, _, _, rfl, .ty _, (.base (.int j)), kit_ty (by decide +kernel), _, rfl, iteT ?_⟩
      refine ⟨_, rfl, _, _, _, _, false, rfl, .ty _, (.base (.int j)), kit_ty (by decide +kernel), _, rfl, _, rfl, iteT ?_⟩
      refine ⟨_, rfl, _, rfl, _, _, .int j, .int j, rfl, rfl, ?_⟩
      rw [PySem.SeqAt.eqv_refl (.int j) rfl]
      exact q H (Same.refl H)
    | .str j, .str _, .str _, ie, _, q =>
      have js : PyData.canLay0 (.str j) = true := ie
      have jsh : SeqAt.shaped (.str j) = true := Bool.and_eq_true_iff.mpr ⟨js, rfl⟩
      refine ⟨_, rfl, rfl, _, rfl, ite2 (fun c => by cases of_decide_eq_true c) (fun _ => ?_)⟩
      refine ⟨_, rfl, _, _, _, _, _, rfl, .ty _, (.base (.str j)), kit_ty (by decide +kernel), _, rfl, iteF ?_⟩
      refine ⟨_, rfl, _, _, _, _, _, rfl, .ty _, (.base (.str j)), kit_ty (by decide +kernel), _, rfl, iteF ?_⟩
      refine ⟨_, rfl, _, _, _, _, _, rfl, .ty _, (.base (.str j)), kit_ty (by decide +kernel), _, rfl, iteT ?_⟩
      refine ⟨_, rfl, _, _, _, _, _, rfl, .ty _, (.base (.str j)), kit_ty (by decide +kernel), _, rfl, iteT ?_⟩
      refine ⟨_, rfl, _, rfl, _, _, .str j, .str j, jsh, jsh, ?_⟩
      rw [PySem.SeqAt.eqv_refl (.str j) js]
      exact q H (Same.refl H)
    | .list es, .lst (a := a) (xs := xs) hx hxa, .lst (a := b) (xs := ys) hs hall, ie, hdep, q =>
      refine ⟨_, rfl, rfl, _, rfl, ite2 (fun c => by cases of_decide_eq_true c) (fun _ => ?_)⟩
      refine ⟨_, rfl, _, _, _, _, _, rfl, .ty _, (ty_seq hs), kit_ty (by decide +kernel), _, rfl, iteF ?_⟩
      refine ⟨_, rfl, _, _, _, _, _, rfl, .ty _, (ty_seq hs), kit_ty (by decide +kernel), _, rfl, iteF ?_⟩
      refine ⟨_, rfl, _, _, _, _, _, rfl, .ty _, (ty_seq hs), kit_ty (by decide +kernel), _, rfl, iteF ?_⟩
      have ie2 := Bool.and_eq_true_iff.mp ie
      have l2 : es.length ≤ 1000 := of_decide_eq_true ie2.1
      have lx := dp_len hxa
      have ly := dp_len hall
      refine ⟨_, rfl, _, _, _, _, true, rfl, .ty _, (ty_seq hx), kit_ty (by decide +kernel), _, rfl, _, _, _, _, true, rfl, .ty _, (ty_seq hs), kit_ty (by decide +kernel), rfl, _, rfl, iteF ?_⟩
      refine ⟨_, rfl, _, _, _, _, false, rfl, .ty _, (ty_seq hx), kit_ty (by decide +kernel), _, rfl, _, _, _, _, false, rfl, .ty _, (ty_seq hs), kit_ty (by decide +kernel), rfl, _, rfl, iteF ?_⟩
      refine ⟨_, rfl, a, xs, rfl, .inl hx, _, rfl, b, ys, rfl, .inl hs, rfl, _, rfl, ite2 (fun c => ?_) (fun c => ?_)⟩
      · rw [lx, ly] at c
        simp at c
      · refine ⟨_, rfl, b, ys, rfl, .inl hs, (ys.length : Int), rfl, by omega, by omega, fun D hD => lc_range (lo := 0) (n := (ys.length : Int).toNat)
          (fun i H' => Same H H' ∧ H' D = some (.lst [])) ⟨same_new hD, upd_same⟩ ?_ ?_⟩
        · rintro i H' hi ⟨sm, hb⟩
          have hi' : i < es.length := by omega
          have g2 : es[i]? = some es[i] := List.getElem?_eq_getElem hi'
          obtain ⟨v1, hv1, dv1⟩ := dp_at hxa g2
          obtain ⟨v2, hv2, dv2⟩ := dp_at hall g2
          have dep : (es[i]).depth < n := by
            have := depth_at g2
            have h3 : PyData.depthAll es + 1 < n + 1 := hdep
            omega
          refine ⟨rfl, _, rfl, _, rfl, a, xs, 0 + (i : Int), v1, rfl, rfl, sm.seq hx, at_of (by omega) hv1, _, rfl, _, rfl, b, ys, 0 + (i : Int), v2, rfl, rfl, sm.seq hs, at_of (by omega) hv2, ?_⟩
          refine ⟨v1, v2, _, rfl, Dp.same sm dv1, Dp.same sm dv2, ld_at ie2.2 g2, dep, fun H2 sm2 => ?_⟩
          exact ⟨_, rfl, iteF ⟨sm.trans sm2, sm2 _ _ hb⟩⟩
        · rintro H' ⟨sm, hb⟩
          refine ⟨Nat.zero_le _, fun p hp => ?_⟩
          have npD : D ≠ p := ne_of_none hb hp
          refine ⟨.list [], .list [], .lst (SqL.of (show (upd H' p (.lst [])) D = _ by rw [upd_ne npD]; exact hb)) .nil, .lst (SqL.of upd_same) .nil, shaped_ints [], shaped_ints [], ?_⟩
          exact q _ (sm.trans (same_new hp))
theorem ok_lawsame {f : Addr} {fd : FuncData} (F : Fun K "_law_same" "_law_same" s_lawsame f fd) (B : Bi mg) (g : mg "_law_same" = some (.ref f)) (b : Binds K fd ["found", "wanted"] []) : ∀ n : Nat, FnOk P w K mg base CX0 (n + 1) f fd ["found", "wanted"] (spSame K n)
  | 0 => ⟨fun vs H Q E h => by obtain ⟨x, y, d, _, _, _, _, z, _⟩ := h; exact absurd z (Nat.not_lt_zero _), fun A outer s H args us vs Q E hr e0 hb hv h => by obtain ⟨x, y, d, _, _, _, _, z, _⟩ := h; exact absurd z (Nat.not_lt_zero _)⟩
  | n + 1 => ok_lawsame_step F B (.mk' F (ok_lawsame F B g b n) g b)
end

section
variable {P : Program} {w : World} {K : PySem.W.Frag} {mg : Str → Option Value} {base : Heap} {c fI : Nat → Addr} {qn : Nat → Str} {cB : Addr}
def spOnce : Sp := fun vs H Q _ => ∃ (n k : Int), vs = [.int n, .int k] ∧ 2 ≤ k ∧ k < 1073741824 ∧ Q (.int (once n k)) H
theorem ok_lawonce {f : Addr} {fd : FuncData} (F : Fun K "_law_once" "_law_once" s_lawonce f fd) : FnOk P w K mg base CX0 1 f fd ["run", "one"] spOnce := by
  refine F.ok sc_lawonce (fun vs H Q E h => ?_) (fun cdv A outer s H vs Q E hr h => ?_)
  · obtain ⟨n, k, rfl, _⟩ := h
    rfl
  · obtain ⟨n, k, rfl, k1, k2, q⟩ := h
    refine ⟨_, (pss_one (ps_ret (pe_op op_add (pe_op op_fdiv (pv 0) (pv 1)) (pe_op op_mod (pv 0) (pv 1))))), ?_⟩
    exact ⟨_, rfl, _, rfl, n, k, rfl, rfl, ⟨by omega, k2⟩, _, rfl, _, rfl, n, k, rfl, rfl, (show 0 < k by omega), _, _, rfl, rfl, q⟩
def spSqz (K : PySem.W.Frag) : Sp := fun vs H Q _ => ∃ (n : Int) (a : Addr) (ks : List Int), vs = [.int n, .ref a] ∧ SqL K H a (ks.map V.int) ∧ Rpl ks ∧ Q (.int (sq n ks)) H
theorem ok_lawsqueezed {f : Addr} {fd : FuncData} (F : Fun K "_law_squeezed" "_law_squeezed" s_lawsqueezed f fd) (D_lawonce : Df P w K mg base 1 "_law_once" ["run", "one"] spOnce) : FnOk P w K mg base CX0 2 f fd ["run", "row"] (spSqz K) := by
  refine F.ok sc_lawsqueezed (fun vs H Q E h => ?_) (fun cdv A outer s H vs Q E hr h => ?_)
  · obtain ⟨n, a, ks, rfl, _⟩ := h
    rfl
  · obtain ⟨n, a, ks, rfl, hS, hk, q⟩ := h
    refine ⟨_, (pss_cons (ps_for PassesOwn.never rfl (pi_list (pv 1)) (pg_name (i := 2) sc_lawsqueezed.nd rfl (Or.inl rfl))
 (pss_one (ps_set (i := 0) sc_lawsqueezed.nd rfl (Or.inl rfl) (pe_callD D_lawonce (hr.mono (by omega)) (by rfl) (pa_cons (pv 0) (pa_cons (pv 2) pa_nil))))))
 (pss_one (ps_ret (pv 0)))), ?_⟩
    refine ⟨_, rfl, a, rfl, ⟨_, hS⟩, for_list (K := K) (a := a) (xs := ks.map V.int) (fun i σ H' => H' = H ∧ ∃ y, σ = [some (.int (sq n (ks.take i))), some (.ref a), y]) ⟨rfl, none, rfl⟩ (fun i σ H' _ h => by rw [h.1]; exact hS) ?_ ?_⟩
    · rintro i x σ H' hi ⟨rfl, y, rfl⟩
      obtain ⟨k, e, rfl⟩ := map_at hi
      have hm := hk k (List.mem_of_getElem? e)
      refine ⟨_, rfl, _, rfl, _, k, rfl, hm.1, hm.2, rfl, some (.int k), ?_⟩
      rw [List.take_add_one, e]
      show _ = [some (V.int (sq n (ks.take i ++ [k]))), _, _]
      rw [sq_concat]
      rfl
    · rintro σ H' ⟨rfl, y, rfl⟩
      rw [List.length_map, List.take_length]
      exact ⟨_, rfl, q⟩
end

section
variable {P : Program} {w : World} {K : PySem.W.Frag} {mg : Str → Option Value} {base : Heap}
/-- the runs up to a top that a row makes single -/
def sinL (row : List Int) (n : Nat) : List Int := ((List.range n).map fun i : Nat => 1 + (i : Int)).filter fun x => decide (sq x row = 1)
theorem sinL_succ (row : List Int) (j : Nat) : sinL row (j + 1) = sinL row j ++ (if sq (1 + (j : Int)) row = 1 then [1 + (j : Int)] else []) := by
  unfold sinL
  rw [List.range_succ, List.map_append, List.filter_append]
  congr 1
  by_cases c : sq (1 + (j : Int)) row = 1
  · rw [if_pos c]
    exact List.filter_cons_of_pos (by exact decide_eq_true c)
  · rw [if_neg c]
    exact List.filter_cons_of_neg (by intro z; exact c (of_decide_eq_true z))
theorem sinL_len (row : List Int) (j : Nat) : (sinL row j).length ≤ j := by
  unfold sinL
  refine Nat.le_trans (List.length_filter_le _ _) ?_
  rw [List.length_map, List.length_range]
  exact Nat.le_refl _
def spSin (K : PySem.W.Frag) : Sp := fun vs H Q _ => ∃ (a : Addr) (row : List Int) (top : Int), vs = [.ref a, .int top] ∧ SqL K H a (row.map V.int) ∧ (∀ k ∈ row, 2 ≤ k ∧ k < 1073741824) ∧ 0 ≤ top ∧ top ≤ 2000 ∧ ∀ p H', H p = none → Same H H' → H' p = some (.lst ((sinL row top.toNat).map V.int)) → Q (.ref p) H'
theorem ok_lawsingles {f : Addr} {fd : FuncData} (F : Fun K "_law_singles" "_law_singles" s_lawsingles f fd) (B : Bi mg) (D_lawsqueezed : Df P w K mg base 2 "_law_squeezed" ["run", "row"] (spSqz K)) : FnOk P w K mg base CX0 3 f fd ["row", "top"] (spSin K) := by
  refine F.ok sc_lawsingles (fun vs H Q E h => ?_) (fun cdv A outer s H vs Q E hr h => ?_)
  · obtain ⟨a, row, top, rfl, _⟩ := h
    rfl
  · obtain ⟨a, row, top, rfl, hS, hk, t0, t1, q⟩ := h
    refine ⟨_, (pss_one (ps_ret (pe_lc (own := [("run", 2)]) (g := gName 2) rfl sc_lawsingles.nd (pi_range2 (by rfl) B.n_range (pa_cons pe_int (pa_cons (pe_op op_add (pv 1) pe_int) pa_nil))) (blkOk_by (own := [("run", 2)]) (N := ["row", "top", "run"]) (sc := defScope s_lawsingles) (by decide +kernel)) (fun _ _ _ _ _ => (pg_name (i := 2) sc_lawsingles.nd rfl (Or.inl rfl))) (fun _ _ _ _ _ => pts_one (pt_cmpR op_eq (pe_callD D_lawsqueezed (hr.mono (by omega)) (by rfl) (pa_cons (pv 2) (pa_cons (pv 0) pa_nil))) pe_int (nomark _))) (fun _ _ _ _ _ => (pv 2))))), ?_⟩
    have lim : sizeLine = 16777216 := sizeLine_eq
    have rk : Rpl row := fun k h => by have := hk k h; omega
    refine ⟨_, rfl, _, 1, rfl, rfl, 1, top + 1, rfl, ⟨by decide, by decide, by omega, by omega⟩, fun D hD => lc_range (lo := 1) (n := (top + 1 - 1).toNat) (fun j H' => Same H (wo H' D) ∧ H' D = some (.lst ((sinL row j).map V.int))) ⟨by rw [wo_upd]; exact same_wo (Same.refl _) hD, upd_same⟩ ?_ ?_⟩
    · rintro j H' hj ⟨s1, g1⟩
      refine ⟨rfl, ?_⟩
      refine ⟨_, rfl, _, rfl, 1 + (j : Int), a, row, rfl, (s1.trans wo_same).seq hS, rk, ?_⟩
      refine ⟨rfl, _, rfl, ?_⟩
      by_cases c : sq (1 + (j : Int)) row = 1
      · rw [decide_eq_true (congrArg V.int c)]
        refine iteT ⟨_, rfl, _, g1, ?_, ?_, ?_⟩
        · rw [List.length_map]
          have := sinL_len row j
          omega
        · rw [wo_upd]
          exact s1
        · rw [upd_same, sinL_succ, if_pos c, List.map_append]
          rfl
      · rw [decide_eq_false (fun z => c (by injection z))]
        refine iteF ⟨s1, ?_⟩
        rw [sinL_succ, if_neg c, List.append_nil]
        exact g1
    · rintro H' ⟨s1, g1⟩
      rw [show top + 1 - 1 = top by omega] at g1
      exact q D H' hD (s1.trans wo_same) g1
end
end Sq

set_option Elab.async false
set_option linter.all false
set_option maxRecDepth 100000
set_option maxHeartbeats 4000000
set_option exponentiation.threshold 2000
namespace Sq
open PySem PySem.Spec PyProof.Rows L2
theorem map_erase {α β : Type} (f : α → β) : ∀ (xs : List α) (i : Nat), (xs.map f).eraseIdx i = (xs.eraseIdx i).map f
  | [], _ => rfl
  | _ :: _, 0 => rfl
  | x :: xs, i + 1 => by
    show f x :: (xs.map f).eraseIdx i = f x :: (xs.eraseIdx i).map f
    rw [map_erase f xs i]
theorem perm_erase {α : Type} : ∀ {xs : List α} {i : Nat} (h : i < xs.length), (xs[i] :: xs.eraseIdx i).Perm xs
  | _ :: _, 0, _ => List.Perm.refl _
  | x :: xs, i + 1, h => by
    have ih := perm_erase (xs := xs) (i := i) (Nat.lt_of_succ_lt_succ h)
    exact (List.Perm.swap x _ _).trans (ih.cons x)
theorem tBM_K {X : Cx} {e : Expr} {K0 : PySem.W.Frag} {T : String} {r : V → List V → Hp → VK → Prop} {to : TE} {t : TA} (hK : X.K = K0) (h : PE X e (tBM X.K T r to t)) : PE X e (tBM K0 T r to t) := hK ▸ h
section
variable {P : Program} {w : World} {K : PySem.W.Frag} {mg : Str → Option Value} {base : Heap}
def spShuf (K : PySem.W.Frag) : Sp := fun vs H Q _ => ∃ (l d a : Addr) (mix cnt : Int) (xs : List Int), vs = [.ref l, .ref a] ∧ Src H l d mix cnt ∧ cnt < 400000 ∧ SqL K H a (xs.map V.int) ∧ xs.length ≤ 2000 ∧
  ∀ p ys c' H', H p = none → Src H' l d mix c' → c' ≤ cnt + xs.length → Keep H H' l d → H' p = some (.lst (ys.map V.int)) → List.Perm ys xs → Q (.ref p) H'
theorem ok_lawshuffled {f : Addr} {fd : FuncData} (F : Fun K "_law_shuffled" "_law_shuffled" s_lawshuffled f fd) (B : Bi mg) (D_lawdraw : Df P w K mg base 1 "_law_draw" ["source", "many"] spDraw) : FnOk P w K mg base CX0 2 f fd ["source", "some"] (spShuf K) := by
  refine F.ok sc_lawshuffled (fun vs H Q E h => ?_) (fun cdv A outer s H vs Q E hr h => ?_)
  · obtain ⟨l, d, a, mix, cnt, xs, rfl, _⟩ := h
    rfl
  · obtain ⟨l, d, a, mix, cnt, xs, rfl, S, hc, hS, hl, q⟩ := h
    refine ⟨_, (pss_cons (ps_set (i := 2) sc_lawshuffled.nd rfl (Or.inr rfl) (pe_callTy (T := "list") (r := rListK K) call_listK (by rfl) B.n_list (by decide +kernel) (pa_cons (pv 1) pa_nil)))
 (pss_one (ps_ret (pe_lc (own := [("time", 3)]) (g := gName 3) rfl sc_lawshuffled.nd (pi_range1 (by rfl) B.n_range (pa_cons (pe_callB (id := "len") (r := rLenK K) call_lenK (by rfl) B.n_len (by decide +kernel) (pa_cons (pv 1) pa_nil)) pa_nil)) (blkOk_by (own := [("time", 3)]) (N := ["source", "some", "left", "time"]) (sc := defScope s_lawshuffled) (by decide +kernel)) (fun _ _ _ _ _ => (pg_name (i := 3) sc_lawshuffled.nd rfl (Or.inl rfl))) (fun _ _ _ _ _ => pts_nil) (fun _ _ _ _ _ => (tBM_K (K0 := K) rfl (pe_bm PySem.F.plainAttrs_list PySem.F.slot_list_pop PySem.F.type_list_pop mt_popAt (pv 2) (pa_cons (pe_callD D_lawdraw (hr.mono (by omega)) (by rfl) (pa_cons (pv 0) (pa_cons (pe_callB (id := "len") (r := rLenK K) call_lenK (by rfl) B.n_len (by decide +kernel) (pa_cons (pv 2) pa_nil)) pa_nil))) pa_nil)))))))), ?_⟩
    have lim : sizeLine = 16777216 := sizeLine_eq
    refine ⟨_, rfl, a, _, rfl, .inl hS, fun pl hpl => ?_⟩
    have g1 : (upd H pl (.lst (xs.map V.int))) pl = some (.lst (xs.map V.int)) := upd_same
    have s1 : Same H (upd H pl (.lst (xs.map V.int))) := same_new hpl
    have S1 := S.same s1
    have npl := S.nel hpl
    have npd := S.ned hpl
    generalize upd H pl (.lst (xs.map V.int)) = H1 at g1 s1 S1 ⊢
    refine ⟨_, rfl, a, _, rfl, .inl (s1.seq hS), (xs.map V.int).length, rfl, by omega, by rw [List.length_map]; omega, fun D hD => lc_range (lo := 0) (n := ((xs.map V.int).length : Int).toNat) (fun j H'' => ∃ (c' : Int) (ys lf : List Int), Src H'' l d mix c' ∧ c' ≤ cnt + j ∧ Keep H H'' l d ∧ H'' pl = some (.lst (lf.map V.int)) ∧ H'' D = some (.lst (ys.map V.int)) ∧ (ys ++ lf).Perm xs ∧ ys.length = j) ?_ ?_ ?_⟩
    · have nD : pl ≠ D := ne_of_none g1 hD
      exact ⟨cnt, [], xs, S1.same (same_new hD), by omega, Keep.of (s1.trans (same_new hD)), by rw [upd_ne nD]; exact g1, upd_same, List.Perm.refl _, rfl⟩
    · rintro j H'' hj ⟨c', ys, lf, S2, hc2, k2, gl, gD, pm, ly⟩
 
      have lt := pm.length_eq
      rw [List.length_append] at lt
      rw [Int.toNat_natCast, List.length_map] at hj
      refine ⟨rfl, ?_⟩
      refine ⟨_, rfl, .inl ⟨rfl, _, SqL.of gl⟩, _, rfl, _, rfl, pl, _, rfl, .inl (SqL.of gl), l, d, mix, c', _, rfl, S2, by omega, by rw [List.length_map]; omega, ?_, fun z c3 H3 z0 z1 S3 hc3 k3 => ?_⟩
      · rw [List.length_map]
        exact Nat.lt_of_le_of_lt (show _ ≤ 2000 by omega) (by decide)
      rw [List.length_map] at z1
      obtain ⟨zi, rfl⟩ : ∃ zi : Nat, z = (zi : Int) := ⟨z.toNat, by omega⟩
      have hzi : zi < lf.length := by omega
      refine ⟨pl, _, _, zi, .int lf[zi], rfl, rfl, k3 _ _ gl npl npd, by omega, by omega, ?_, ?_, ?_⟩
      · exact seqIndex_of (by omega) (by rw [List.length_map]; omega)
      · rw [List.getElem?_map, List.getElem?_eq_getElem hzi]
        rfl
      · have nD : D ≠ pl := fun e => by rw [e, g1] at hD; cases hD
        have nDl : D ≠ l := S1.nel hD
        have nDd : D ≠ d := S1.ned hD
        have gD3 := k3 _ _ gD nDl nDd
        refine ⟨_, by rw [upd_ne nD]; exact gD3, by rw [List.length_map]; omega, c3, ys ++ [lf[zi]], lf.eraseIdx zi, ?_, by omega, ?_, ?_, ?_, ?_, ?_⟩
        · obtain ⟨cur, ds, o1, o2⟩ := S3.ob
          exact ⟨⟨cur, ds, by rw [upd_ne nDl.symm, upd_ne npl.symm]; exact o1, by rw [upd_ne nDd.symm, upd_ne npd.symm]; exact o2⟩, S3.m0, S3.m1, S3.c0, S3.ne⟩
        · intro b o e n1 n2
          have nb : b ≠ pl := ne_of_none e hpl
          have nb2 : b ≠ D := ne_of_none (s1 _ _ e) hD
          rw [upd_ne nb2, upd_ne nb]
          exact k3 _ _ (k2 _ _ e n1 n2) n1 n2
        · rw [upd_ne nD.symm, upd_same, map_erase]
        · rw [upd_same, List.map_append]
          rfl
        · have e : (lf[zi] :: lf.eraseIdx zi).Perm lf := perm_erase hzi
          rw [List.append_assoc]
          exact ((e.append_left ys)).trans pm
        · rw [List.length_append, ly]
          rfl
    · rintro H'' ⟨c', ys, lf, S2, hc2, k2, gl, gD, pm, ly⟩
      have lt := pm.length_eq
      rw [List.length_append] at lt
      rw [Int.toNat_natCast, List.length_map] at ly hc2
      have l0 : lf = [] := List.length_eq_zero_iff.mp (by omega)
      subst l0
      rw [List.append_nil] at pm
      exact q D ys c' _ (s1.free hD) S2 hc2 k2 gD pm
end
end Sq

set_option Elab.async false
set_option linter.all false
set_option maxHeartbeats 1000000
/-! All lists with a product. -/
namespace Sq
def dvJ (n : Int) (j : Nat) : List Int := ((List.range j).map fun i : Nat => 2 + (i : Int)).filter fun k => decide (n % k = 0)
theorem dvJ_succ (n : Int) (j : Nat) : dvJ n (j + 1) = dvJ n j ++ (if n % (2 + (j : Int)) = 0 then [2 + (j : Int)] else []) := by
  unfold dvJ
  rw [List.range_succ, List.map_append, List.filter_append]
  congr 1
  by_cases c : n % (2 + (j : Int)) = 0
  · rw [if_pos c]
    exact List.filter_cons_of_pos (by exact decide_eq_true c)
  · rw [if_neg c]
    exact List.filter_cons_of_neg (by intro z; exact c (of_decide_eq_true z))
theorem dvJ_len (n : Int) (j : Nat) : (dvJ n j).length ≤ j := by
  unfold dvJ
  refine Nat.le_trans (List.length_filter_le _ _) ?_
  rw [List.length_map, List.length_range]
  exact Nat.le_refl _
def dvs (n : Int) : List Int := dvJ n (n - 1).toNat
theorem mem_dvs {n k : Int} : k ∈ dvs n ↔ 2 ≤ k ∧ k ≤ n ∧ n % k = 0 := by
  unfold dvs dvJ
  rw [List.mem_filter, List.mem_map]
  constructor
  · rintro ⟨⟨i, hi, e⟩, h⟩
    have := List.mem_range.mp hi
    exact ⟨by omega, by omega, of_decide_eq_true h⟩
  · rintro ⟨h1, h2, h3⟩
    exact ⟨⟨(k - 2).toNat, List.mem_range.mpr (by omega), by omega⟩, decide_eq_true h3⟩
theorem dvs_nodup (n : Int) : (dvs n).Nodup := by
  unfold dvs dvJ
  refine List.Pairwise.filter _ ?_
  refine List.Pairwise.map _ (fun (r s : Nat) h => ?_) List.nodup_range
  intro z
  exact h (by omega)
theorem dvs_less {n k : Int} (h : k ∈ dvs n) : 1 ≤ n / k ∧ n / k < n ∧ n / k * 2 ≤ n ∧ k * (n / k) = n := by
  obtain ⟨h1, h2, h3⟩ := mem_dvs.mp h
  have e := Int.mul_ediv_add_emod n k
  rw [h3, Int.add_zero] at e
  have p : 0 < n / k := by
    by_cases c : 0 < n / k
    · exact c
    · have := Int.mul_le_mul_of_nonneg_left (show n / k ≤ 0 by omega) (show 0 ≤ k by omega)
      rw [Int.mul_zero] at this
      omega
  have m := Int.mul_le_mul_of_nonneg_right h1 (show 0 ≤ n / k by omega)
  exact ⟨by omega, by omega, by omega, e⟩
theorem flatMap_same {α β : Type} {f g : α → List β} : ∀ {l : List α}, (∀ x ∈ l, f x = g x) → l.flatMap f = l.flatMap g
  | [], _ => rfl
  | x :: l, h => by
    rw [List.flatMap_cons, List.flatMap_cons, h x List.mem_cons_self, flatMap_same fun y hy => h y (List.mem_cons_of_mem _ hy)]
def facF : Nat → Int → List (List Int)
  | 0, _ => []
  | f + 1, n => (if n = 1 then [[]] else []) ++ (dvs n).flatMap fun k => (facF f (n / k)).map (k :: ·)
theorem facF_fuel : ∀ (f g : Nat) (n : Int), 1 ≤ n → n ≤ f → n ≤ g → facF f n = facF g n
  | 0, _, n, h, h1, _ => by omega
  | _ + 1, 0, n, h, _, h2 => by omega
  | f + 1, g + 1, n, h, h1, h2 => by
    show _ ++ _ = _ ++ _
    congr 1
    refine flatMap_same fun k hk => ?_
    obtain ⟨a, b, _, _⟩ := dvs_less hk
    rw [facF_fuel f g (n / k) a (by omega) (by omega)]
def facs (n : Int) : List (List Int) := facF n.toNat n
theorem facs_eq {n : Int} (h : 1 ≤ n) : facs n = (if n = 1 then [[]] else []) ++ (dvs n).flatMap fun k => (facs (n / k)).map (k :: ·) := by
  have e : n.toNat = (n.toNat - 1) + 1 := by omega
  unfold facs
  rw [e]
  show _ ++ _ = _ ++ _
  congr 1
  refine flatMap_same fun k hk => ?_
  obtain ⟨a, b, _, _⟩ := dvs_less hk
  rw [facF_fuel _ (n / k).toNat (n / k) a (by omega) (by omega)]
theorem mem_facF : ∀ (f : Nat) (n : Int) (r : List Int), 1 ≤ n → n ≤ f → (r ∈ facF f n ↔ (∀ k ∈ r, 2 ≤ k) ∧ pro r = n)
  | 0, n, r, h, h1 => by omega
  | f + 1, n, [], h, h1 => by
    show [] ∈ _ ++ _ ↔ _
    rw [List.mem_append, List.mem_flatMap]
    constructor
    · rintro (z | ⟨k, hk, z⟩)
      · split at z
        · rename_i c
          exact ⟨fun k hk => absurd hk List.not_mem_nil, by rw [c]; rfl⟩
        · exact absurd z List.not_mem_nil
      · obtain ⟨y, _, e⟩ := List.mem_map.mp z
        cases e
    · rintro ⟨_, e⟩
      have e : (1 : Int) = n := e
      left
      rw [if_pos e.symm]
      exact List.mem_singleton.mpr rfl
  | f + 1, n, k :: t, h, h1 => by
    show (k :: t) ∈ _ ++ _ ↔ _
    rw [List.mem_append, List.mem_flatMap]
    constructor
    · rintro (z | ⟨q, hq, z⟩)
      · split at z
        · exact absurd (List.mem_singleton.mp z) (by simp)
        · exact absurd z List.not_mem_nil
      · obtain ⟨y, hy, e⟩ := List.mem_map.mp z
        injection e with e1 e2
        subst e1 e2
        obtain ⟨a, b, _, e⟩ := dvs_less hq
        obtain ⟨p1, p2⟩ := (mem_facF f (n / q) y a (by omega)).mp hy
        refine ⟨fun x hx => ?_, by rw [pro_cons, p2, e]⟩
        rcases List.mem_cons.mp hx with rfl | hx
        · exact (mem_dvs.mp hq).1
        · exact p1 x hx
    · rintro ⟨p1, p2⟩
      rw [pro_cons] at p2
      have k2 := p1 k List.mem_cons_self
      have pt := pro_pos (ks := t) fun x hx => p1 x (List.mem_cons_of_mem _ hx)
      have d : n / k = pro t := by rw [← p2]; exact Int.mul_ediv_cancel_left _ (by omega)
      have le : k ≤ n := by
        have := Int.mul_le_mul_of_nonneg_left (show (1 : Int) ≤ pro t by omega) (show 0 ≤ k by omega)
        omega
      have hk : k ∈ dvs n := mem_dvs.mpr ⟨k2, le, by rw [← p2]; exact Int.mul_emod_right k (pro t)⟩
      obtain ⟨a, b, _, _⟩ := dvs_less hk
      exact .inr ⟨k, hk, List.mem_map.mpr ⟨t, (mem_facF f (n / k) t a (by omega)).mpr ⟨fun x hx => p1 x (List.mem_cons_of_mem _ hx), d.symm⟩, rfl⟩⟩
theorem mem_facs {n : Int} {r : List Int} (h : 1 ≤ n) : r ∈ facs n ↔ (∀ k ∈ r, 2 ≤ k) ∧ pro r = n := mem_facF _ n r h (by omega)
theorem nodup_flat {α β : Type} {f : α → List β} : ∀ {l : List α}, l.Nodup → (∀ x ∈ l, (f x).Nodup) → (∀ x ∈ l, ∀ y ∈ l, x ≠ y → ∀ b ∈ f x, b ∉ f y) → (l.flatMap f).Nodup
  | [], _, _, _ => List.nodup_nil
  | x :: l, nd, h1, h2 => by
    have nd' := List.nodup_cons.mp nd
    rw [List.flatMap_cons]
    refine List.nodup_append.mpr ⟨h1 x List.mem_cons_self, nodup_flat nd'.2 (fun y hy => h1 y (List.mem_cons_of_mem _ hy)) fun y hy z hz => h2 y (List.mem_cons_of_mem _ hy) z (List.mem_cons_of_mem _ hz), fun b hb c hc e => ?_⟩
    subst e
    obtain ⟨y, hy, hc⟩ := List.mem_flatMap.mp hc
    exact h2 x List.mem_cons_self y (List.mem_cons_of_mem _ hy) (fun e => nd'.1 (e ▸ hy)) b hb hc
theorem nodup_facF : ∀ (f : Nat) (n : Int), (facF f n).Nodup
  | 0, n => List.nodup_nil
  | f + 1, n => by
    show List.Nodup (_ ++ _)
    refine List.nodup_append.mpr ⟨?_, ?_, fun b hb c hc e => ?_⟩
    · split
      · exact List.nodup_cons.mpr ⟨List.not_mem_nil, List.nodup_nil⟩
      · exact List.nodup_nil
    · refine nodup_flat (dvs_nodup n) (fun k _ => ?_) fun x _ y _ ne b hb hc => ?_
      · refine List.Pairwise.map _ (fun r s h => ?_) (nodup_facF f (n / k))
        intro z
        injection z with _ z
        exact h z
      · obtain ⟨u, _, e1⟩ := List.mem_map.mp hb
        obtain ⟨v, _, e2⟩ := List.mem_map.mp hc
        rw [← e2] at e1
        injection e1 with z
        exact ne z
    · subst e
      obtain ⟨k, _, hc⟩ := List.mem_flatMap.mp hc
      obtain ⟨u, _, e1⟩ := List.mem_map.mp hc
      split at hb
      · rw [List.mem_singleton.mp hb] at e1
        cases e1
      · exact absurd hb List.not_mem_nil
theorem nodup_facs (n : Int) : (facs n).Nodup := nodup_facF _ _
/-- how many pairs come of one -/
def wkF : Nat → Int → Nat
  | 0, _ => 1
  | f + 1, n => 1 + ((dvs n).map fun k => wkF f (n / k)).sum
theorem sum_same {α : Type} {f g : α → Nat} : ∀ {l : List α}, (∀ x ∈ l, f x = g x) → (l.map f).sum = (l.map g).sum
  | [], _ => rfl
  | x :: l, h => by
    rw [List.map_cons, List.map_cons, List.sum_cons, List.sum_cons, h x List.mem_cons_self, sum_same fun y hy => h y (List.mem_cons_of_mem _ hy)]
theorem wkF_fuel : ∀ (f g : Nat) (n : Int), 1 ≤ n → n ≤ f → n ≤ g → wkF f n = wkF g n
  | 0, _, n, h, h1, _ => by omega
  | _ + 1, 0, n, h, _, h2 => by omega
  | f + 1, g + 1, n, h, h1, h2 => by
    show 1 + _ = 1 + _
    congr 1
    refine sum_same fun k hk => ?_
    obtain ⟨a, b, _, _⟩ := dvs_less hk
    rw [wkF_fuel f g (n / k) a (by omega) (by omega)]
def wk (n : Int) : Nat := wkF n.toNat n
theorem wk_eq {n : Int} (h : 1 ≤ n) : wk n = 1 + ((dvs n).map fun k => wk (n / k)).sum := by
  have e : n.toNat = (n.toNat - 1) + 1 := by omega
  unfold wk
  rw [e]
  show 1 + _ = 1 + _
  congr 1
  refine sum_same fun k hk => ?_
  obtain ⟨a, b, _, _⟩ := dvs_less hk
  rw [wkF_fuel _ (n / k).toNat (n / k) a (by omega) (by omega)]
theorem wk_pos (n : Int) : 1 ≤ wk n := by
  unfold wk
  cases n.toNat with
  | zero => exact Nat.le_refl _
  | succ f => exact Nat.le_add_right _ _
theorem wk_small : ∀ m : Nat, m < 61 → wkF 60 (m : Int) ≤ 1000 := by decide +kernel
theorem wk_le {n : Int} (h : 1 ≤ n) (l : n ≤ 60) : wk n ≤ 1000 := by
  unfold wk
  rw [wkF_fuel n.toNat 60 n h (by omega) (by omega)]
  have := wk_small n.toNat (by omega)
  rwa [show ((n.toNat : Nat) : Int) = n by omega] at this
/-- what a stack still gives -/
def gives (st : List (List Int × Int)) : List (List Int) := st.flatMap fun x => (facs x.2).map (x.1 ++ ·)
def wks (st : List (List Int × Int)) : Nat := (st.map fun x => wk x.2).sum
def kids (row : List Int) (left : Int) (j : Nat) : List (List Int × Int) := (dvJ left j).map fun k => (row ++ [k], left / k)
theorem gives_app (a b : List (List Int × Int)) : gives (a ++ b) = gives a ++ gives b := List.flatMap_append
theorem gives_one (row : List Int) {left : Int} (h : 1 ≤ left) : gives [(row, left)] = (if left = 1 then [row] else []) ++ gives (kids row left (left - 1).toNat) := by
  unfold gives
  rw [List.flatMap_cons, List.flatMap_nil, List.append_nil]
  show (facs left).map _ = _
  rw [facs_eq h, List.map_append]
  congr 1
  · split
    · show [row ++ []] = [row]
      rw [List.append_nil]
    · rfl
  · unfold kids
    rw [List.map_flatMap, List.flatMap_map]
    refine flatMap_same fun k hk => ?_
    rw [List.map_map]
    refine List.map_congr_left fun x _ => ?_
    show row ++ (k :: x) = (row ++ [k]) ++ x
    rw [List.append_assoc]
    rfl
theorem wks_app (a b : List (List Int × Int)) : wks (a ++ b) = wks a + wks b := by
  unfold wks
  rw [List.map_append, List.sum_append]
theorem wks_one (row : List Int) {left : Int} (h : 1 ≤ left) : wks [(row, left)] = 1 + wks (kids row left (left - 1).toNat) := by
  unfold wks kids
  rw [List.map_map]
  show wk left + 0 = _
  rw [wk_eq h, Nat.add_zero]
  rfl
theorem wks_len : ∀ st : List (List Int × Int), st.length ≤ wks st
  | [] => Nat.le_refl _
  | x :: st => by
    have := wks_len st
    have w := wk_pos x.2
    unfold wks at this ⊢
    rw [List.map_cons, List.sum_cons, List.length_cons]
    omega
theorem perm_turn {fr a p c : List (List Int)} : (fr ++ (a ++ (p ++ c))).Perm ((fr ++ p) ++ (a ++ c)) := by
  rw [List.append_assoc]
  refine List.Perm.append_left _ ?_
  rw [← List.append_assoc, ← List.append_assoc]
  exact List.Perm.append_right _ List.perm_append_comm
end Sq

set_option Elab.async false
set_option linter.all false
set_option maxRecDepth 100000
set_option maxHeartbeats 4000000
set_option exponentiation.threshold 2000
namespace Sq
open PySem PySem.Spec PyProof.Rows L2
structure Wt where
  t : Addr
  a : Addr
  row : List Int
  left : Int
structure Wt.Ok (H : Hp) (l d : Addr) (top : Int) (x : Wt) : Prop where
  ht : H x.t = some (.tup [.ref x.a, .int x.left])
  ha : H x.a = some (.lst (x.row.map V.int))
  tl : x.t ≠ l
  td : x.t ≠ d
  al : x.a ≠ l
  ad : x.a ≠ d
  one : 1 ≤ x.left
  low : (x.row.length : Int) + x.left ≤ top
theorem Wt.Ok.keep {H H' : Hp} {l d : Addr} {top : Int} {x : Wt} (h : x.Ok H l d top) (k : Keep H H' l d) : x.Ok H' l d top :=
  ⟨k _ _ h.ht h.tl h.td, k _ _ h.ha h.al h.ad, h.tl, h.td, h.al, h.ad, h.one, h.low⟩
theorem grown2 {H1 H' H4 : Hp} {D : Addr} (hD : H1 D = none) (s : Same H1 (wo H' D)) (s4 : Same H' H4) : Same H1 (wo H4 D) := fun b o e => by
  have nb : b ≠ D := ne_of_none e hD
  have := s b o e
  rw [wo_ne nb] at this ⊢
  exact s4 b o this
def Wt.pr (x : Wt) : List Int × Int := (x.row, x.left)
def Wt.dt (x : Wt) : PyData := .tuple [.list (x.row.map PyData.int), .int x.left]
section
variable {K : PySem.W.Frag} {H : Hp} {l d : Addr} {top : Int}
theorem dp_stack : ∀ {st : List Wt}, (∀ x ∈ st, x.Ok H l d top) → DpAll K H (st.map fun x => V.ref x.t) (st.map Wt.dt)
  | [], _ => .nil
  | x :: st, h => by
    have o := h x List.mem_cons_self
    exact .cons (.tup (SqT.of o.ht) (.cons (.lst (SqL.of o.ha) (dp_ints _)) (.cons (.int _) .nil))) (dp_stack fun y hy => h y (List.mem_cons_of_mem _ hy))
end
theorem lay_stack : ∀ st : List Wt, PyData.canLayAll0 (st.map Wt.dt) = true
  | [] => rfl
  | x :: st => by
    show ((PyData.canLayAll0 (x.row.map PyData.int) && (true && true)) && PyData.canLayAll0 (st.map Wt.dt)) = true
    rw [lay_stack st, lays_ints]
    rfl
theorem deep_stack : ∀ st : List Wt, PyData.depthAll (st.map Wt.dt) ≤ 3
  | [] => Nat.zero_le _
  | x :: st => by
    refine Nat.max_le.mpr ⟨?_, deep_stack st⟩
    show max (PyData.depthAll (x.row.map PyData.int) + 1) (max 0 0) + 1 ≤ 3
    have := deep_ints x.row
    omega
theorem shaped_stack (st : List Wt) : SeqAt.shaped (.list (st.map Wt.dt)) = true := shaped_il (lay_stack st) (Nat.le_trans (Nat.add_le_add_right (deep_stack st) 1) (by decide))
theorem eqv_stack_nil : ∀ st : List Wt, PyData.eqv (.list (st.map Wt.dt)) (.list []) = decide (st = [])
  | [] => rfl
  | x :: st => rfl
section
variable {P : Program} {w : World} {K : PySem.W.Frag} {mg : Str → Option Value} {base : Heap}
def spProds : Sp := fun vs H Q _ => ∃ top : Int, vs = [.int top] ∧ 1 ≤ top ∧ top ≤ 60 ∧ ∀ (p : Addr) (fr : List (Addr × List Int)) (H' : Hp), H p = none → Same H H' → H' p = some (.lst (fr.map fun x => V.ref x.1)) →
  (∀ x ∈ fr, H' x.1 = some (.lst (x.2.map V.int))) → (fr.map fun x => x.2).Perm (facs top) → Q (.ref p) H'
theorem ok_lawproducts {f : Addr} {fd : FuncData} (F : Fun K "_law_products" "_law_products" s_lawproducts f fd) (B : Bi mg) : FnOk P w K mg base CX0 1 f fd ["top"] spProds := by
  refine F.ok sc_lawproducts (fun vs H Q E h => ?_) (fun cdv A outer s H vs Q E hr h => ?_)
  · obtain ⟨top, rfl, _⟩ := h
    rfl
  · obtain ⟨top, rfl, t1, t2, q⟩ := h
    refine ⟨_, (pss_cons (ps_par (i := 1) (j := 2) (by rfl) sc_lawproducts.nd rfl rfl (by decide) rfl rfl (pa_cons (pe_lst pa_nil) (pa_cons (pe_lst (pa_cons (pe_tup (pa_cons (pe_lst pa_nil) (pa_cons (pv 0) pa_nil))) pa_nil)) pa_nil)) (by rfl))
 (pss_cons (ps_while PassesOwn.never (pt_cmpR (op_neD hr.units) (pv 2) (pe_lst pa_nil) (nomark _))
 (pss_cons (ps_asg (pe_bm0 PySem.F.plainAttrs_list PySem.F.slot_list_pop PySem.F.type_list_pop mt_pop (pv 2)) (pg_tup rfl (pgs_cons (pg_name (i := 3) sc_lawproducts.nd rfl (Or.inr rfl)) (pgs_cons (pg_name (i := 4) sc_lawproducts.nd rfl (Or.inr rfl)) pgs_nil))))
 (pss_cons (ps_if (pt_cmpR op_eq (pv 4) pe_int (nomark _))
 (pss_one (ps_expr (pe_bm PySem.F.plainAttrs_list PySem.F.slot_list_append PySem.F.type_list_append mt_append (pv 1) (pa_cons (pv 3) pa_nil))))
 pss_nil)
 (pss_one (ps_expr (pe_bm PySem.F.plainAttrs_list PySem.F.slot_list_extend PySem.F.type_list_extend mt_extend (pv 2) (pa_cons (pe_lc (own := [("one", 5)]) (g := gName 5) rfl sc_lawproducts.nd (pi_range2 (by rfl) B.n_range (pa_cons pe_int (pa_cons (pe_op op_add (pv 4) pe_int) pa_nil))) (blkOk_by (own := [("one", 5)]) (N := ["top", "found", "waiting", "row", "left", "one"]) (sc := defScope s_lawproducts) (by decide +kernel)) (fun _ _ _ _ _ => (pg_name (i := 5) sc_lawproducts.nd rfl (Or.inl rfl))) (fun _ _ _ _ _ => pts_one (pt_cmpR op_eq (pe_op op_mod (pv 4) (pv 5)) pe_int (nomark _))) (fun _ _ _ _ _ => (pe_tup (pa_cons (pe_op op_cat (pv 3) (pe_lst (pa_cons (pv 5) pa_nil))) (pa_cons (pe_op op_fdiv (pv 4) (pv 5)) pa_nil))))) pa_nil)))))))
 (pss_one (ps_ret (pv 1))))), ?_⟩
    have lim : sizeLine = 16777216 := sizeLine_eq
    refine ⟨Nat.zero_le _, fun pf hpf => ⟨Nat.zero_le _, fun a0 ha0 => ⟨_, rfl, by show 2 ≤ _; omega, fun t0 ht0 => ⟨by show 1 ≤ _; omega, fun pw hpw => ⟨_, _, rfl, ?_⟩⟩⟩⟩⟩
    have s0 : Same H (upd (upd (upd (upd H pf (.lst [])) a0 (.lst [])) t0 (.tup [.ref a0, .int top])) pw (.lst [.ref t0])) := (((same_new hpf).trans (same_new ha0)).trans (same_new ht0)).trans (same_new hpw)
    have gw0 : (upd (upd (upd (upd H pf (.lst [])) a0 (.lst [])) t0 (.tup [.ref a0, .int top])) pw (.lst [.ref t0])) pw = some (.lst [.ref t0]) := upd_same
    have gt0 : (upd (upd (upd (upd H pf (.lst [])) a0 (.lst [])) t0 (.tup [.ref a0, .int top])) pw (.lst [.ref t0])) t0 = some (.tup [.ref a0, .int top]) := same_new hpw _ _ upd_same
    have ga0 : (upd (upd (upd (upd H pf (.lst [])) a0 (.lst [])) t0 (.tup [.ref a0, .int top])) pw (.lst [.ref t0])) a0 = some (.lst (([] : List Int).map V.int)) := same_new hpw _ _ (same_new ht0 _ _ upd_same)
    have gf0 : (upd (upd (upd (upd H pf (.lst [])) a0 (.lst [])) t0 (.tup [.ref a0, .int top])) pw (.lst [.ref t0])) pf = some (.lst []) := same_new hpw _ _ (same_new ht0 _ _ (same_new ha0 _ _ upd_same))
    have npw : H pw = none := ((same_new hpf).trans ((same_new ha0).trans (same_new ht0))).free hpw
    have n1 : pf ≠ pw := ne_of_none (same_new ht0 _ _ (same_new ha0 _ _ upd_same)) hpw
    have n2 : a0 ≠ pw := ne_of_none (same_new ht0 _ _ upd_same) hpw
    have n3 : t0 ≠ pw := ne_of_none upd_same hpw
    have n4 : a0 ≠ pf := (ne_of_none upd_same ha0).symm
    have n5 : t0 ≠ pf := (ne_of_none (same_new ha0 _ _ upd_same) ht0).symm
    clear hpw ht0 ha0
    generalize (upd (upd (upd (upd H pf (.lst [])) a0 (.lst [])) t0 (.tup [.ref a0, .int top])) pw (.lst [.ref t0])) = H0 at s0 gw0 gt0 ga0 gf0 ⊢
    refine ⟨fun m σ H' => ∃ (fr : List (Addr × List Int)) (st : List Wt), ∃ y3 y4, σ = [some (.int top), some (.ref pf), some (.ref pw), y3, y4, none] ∧ Same H H' ∧ H' pf = some (.lst (fr.map fun x => V.ref x.1)) ∧ H' pw = some (.lst (st.map fun x => V.ref x.t)) ∧
        (∀ x ∈ fr, H' x.1 = some (.lst (x.2.map V.int)) ∧ x.1 ≠ pf ∧ x.1 ≠ pw) ∧ (∀ x ∈ st, x.Ok H' pf pw top) ∧ ((fr.map fun x => x.2) ++ gives (st.map Wt.pr)).Perm (facs top) ∧ wks (st.map Wt.pr) = m ∧ fr.length + m ≤ 1000,
      ⟨_, [], [⟨t0, a0, [], top⟩], none, none, rfl, s0, gf0, gw0, fun x hx => absurd hx List.not_mem_nil, fun x hx => ?_, ?_, rfl, ?_⟩, ?_⟩
    · rw [List.mem_singleton.mp hx]
      exact ⟨gt0, ga0, n5, n3, n4, n2, t1, by show ((0 : Nat) : Int) + top ≤ top; omega⟩
    · show ([] ++ gives [([], top)]).Perm (facs top)
      unfold gives
      rw [List.flatMap_cons, List.flatMap_nil, List.append_nil, List.nil_append]
      show ((facs top).map fun x => x).Perm _
      rw [List.map_id']
    · show 0 + (wk top + 0) ≤ 1000
      have := wk_le t1 t2
      omega
    rintro m σ H' ⟨fr, st, y3, y4, rfl, s1, gf, gw, okf, oks, pm, hm, few⟩
    refine ⟨_, rfl, Nat.zero_le _, fun e he => ⟨_, _, .lst (SqL.of (same_new he _ _ gw)) (dp_stack (l := pf) (d := pw) (top := top) fun x hx => ?ks), .lst (SqL.of upd_same) .nil, shaped_stack st, rfl, _, rfl, ?_⟩⟩
    case ks => exact (oks x hx).keep (Keep.of (same_new he))
    rw [eqv_stack_nil]
    have s2 := s1.trans (same_new (o := .lst []) he)
    have gf2 := same_new (o := .lst []) he _ _ gf
    have gw2 := same_new (o := .lst []) he _ _ gw
    have okf2 : ∀ x ∈ fr, (upd H' e (.lst [])) x.1 = some (.lst (x.2.map V.int)) ∧ x.1 ≠ pf ∧ x.1 ≠ pw := fun x hx => ⟨same_new he _ _ (okf x hx).1, (okf x hx).2⟩
    have oks2 : ∀ x ∈ st, x.Ok (upd H' e (.lst [])) pf pw top := fun x hx => (oks x hx).keep (Keep.of (same_new he))
    clear okf oks gf gw s1
    generalize upd H' e (.lst []) = H2 at s2 gf2 gw2 okf2 oks2 ⊢
    rcases List.eq_nil_or_concat st with rfl | ⟨sr, x, rfl⟩
    · refine iteF ⟨_, rfl, ?_⟩
      refine q pf fr H2 hpf s2 gf2 (fun x hx => (okf2 x hx).1) ?_
      have e : gives (([] : List Wt).map Wt.pr) = [] := rfl
      rw [e, List.append_nil] at pm
      exact pm
    rw [List.concat_eq_append] at *
    rw [decide_eq_false (by simp)]
    refine iteT ?_
    refine ⟨fun σ' H'' => ∃ m', m' < m ∧ ∃ (fr : List (Addr × List Int)) (st : List Wt), ∃ y3 y4, σ' = [some (.int top), some (.ref pf), some (.ref pw), y3, y4, none] ∧ Same H H'' ∧ H'' pf = some (.lst (fr.map fun x => V.ref x.1)) ∧ H'' pw = some (.lst (st.map fun x => V.ref x.t)) ∧
        (∀ x ∈ fr, H'' x.1 = some (.lst (x.2.map V.int)) ∧ x.1 ≠ pf ∧ x.1 ≠ pw) ∧ (∀ x ∈ st, x.Ok H'' pf pw top) ∧ ((fr.map fun x => x.2) ++ gives (st.map Wt.pr)).Perm (facs top) ∧ wks (st.map Wt.pr) = m' ∧ fr.length + m' ≤ 1000, fun σ' H'' h => h, ?_⟩
    have ox := oks2 x (by simp)
    refine ⟨_, rfl, .inl ⟨rfl, _, SqL.of gw2⟩, pw, _, .ref x.t, rfl, rfl, gw2, ?_, ?_⟩
    · rw [List.map_append, List.length_append, List.length_map]
      show (_ ++ [_])[_]? = _
      rw [List.getElem?_append_right (by rw [List.length_map]; simp), List.length_map]
      simp
    have gf3 : (upd H2 pw (.lst (List.map (fun x => V.ref x.t) (sr ++ [x])).dropLast)) pf = some (.lst (fr.map fun x => V.ref x.1)) := by rw [upd_ne n1]; exact gf2
    have gw3 : (upd H2 pw (.lst (List.map (fun x => V.ref x.t) (sr ++ [x])).dropLast)) pw = some (.lst (sr.map fun x => V.ref x.t)) := by
      rw [upd_same, List.map_append]
      show some (HO.lst (_ ++ [_]).dropLast) = _
      rw [List.dropLast_concat]
    have s3 : Same H (upd H2 pw (.lst (List.map (fun x => V.ref x.t) (sr ++ [x])).dropLast)) := fun b o e => by rw [upd_ne (ne_of_none e npw)]; exact s2 b o e
    have k3 : Keep H2 (upd H2 pw (.lst (List.map (fun x => V.ref x.t) (sr ++ [x])).dropLast)) pf pw := (Keep.refl _ _ _).d
    have okf3 : ∀ y ∈ fr, (upd H2 pw (.lst (List.map (fun x => V.ref x.t) (sr ++ [x])).dropLast)) y.1 = some (.lst (y.2.map V.int)) ∧ y.1 ≠ pf ∧ y.1 ≠ pw := fun y hx => ⟨k3 _ _ (okf2 y hx).1 (okf2 y hx).2.1 (okf2 y hx).2.2, (okf2 y hx).2⟩
    have oks3 : ∀ y ∈ sr, y.Ok (upd H2 pw (.lst (List.map (fun x => V.ref x.t) (sr ++ [x])).dropLast)) pf pw top := fun y hy => (oks2 y (List.mem_append_left _ hy)).keep k3
    have ox3 := ox.keep k3
    clear okf2 oks2 gf2 gw2 s2 k3 ox
    generalize (upd H2 pw (.lst (List.map (fun x => V.ref x.t) (sr ++ [x])).dropLast)) = H3 at gf3 gw3 s3 okf3 oks3 ox3 ⊢
    rw [List.map_append] at pm hm
    have pm := pm
    rw [gives_app, show [x].map Wt.pr = [(x.row, x.left)] from rfl, gives_one x.row ox3.one] at pm
    rw [wks_app, show [x].map Wt.pr = [(x.row, x.left)] from rfl, wks_one x.row ox3.one] at hm
    have pm := perm_turn.symm.trans pm
    refine ⟨x.t, _, rfl, SqT.of ox3.ht, rfl, _, _, rfl, _, _, rfl, ?_⟩
    refine ⟨rfl, ?_⟩
    refine tellNx (fun σ2 H'' => ∃ fr' : List (Addr × List Int), (fr'.map fun x => x.2) = (fr.map fun x => x.2) ++ (if x.left = 1 then [x.row] else []) ∧ fr'.length ≤ fr.length + 1 ∧ σ2 = [some (.int top), some (.ref pf), some (.ref pw), some (.ref x.a), some (.int x.left), none] ∧ Same H H'' ∧ H'' pf = some (.lst (fr'.map fun x => V.ref x.1)) ∧ H'' pw = some (.lst (sr.map fun x => V.ref x.t)) ∧
      (∀ x ∈ fr', H'' x.1 = some (.lst (x.2.map V.int)) ∧ x.1 ≠ pf ∧ x.1 ≠ pw) ∧ (∀ x ∈ sr, x.Ok H'' pf pw top) ∧ x.Ok H'' pf pw top) (fun N hN => ?_) (fun σ2 H4 h4 => ?_)
    · refine ⟨_, rfl, rfl, _, rfl, ite2 (fun c => ?_) (fun c => ?_)⟩
      · have c1 : x.left = 1 := by
          have := of_decide_eq_true c
          injection this
        refine ⟨_, rfl, .inl ⟨rfl, _, SqL.of gf3⟩, _, rfl, pf, _, _, rfl, rfl, gf3, by rw [List.length_map]; omega, hN _ _ ⟨fr ++ [(x.a, x.row)], ?_, ?_, rfl, ?_, ?_, ?_, ?_, ?_, ?_⟩⟩
        · rw [if_pos c1, List.map_append]
          rfl
        · rw [List.length_append]
          exact Nat.le_refl _
        · exact fun b o e => by rw [upd_ne (ne_of_none e hpf)]; exact s3 b o e
        · rw [upd_same, List.map_append]
          rfl
        · rw [upd_ne n1.symm]
          exact gw3
        · intro y hy
          rcases List.mem_append.mp hy with hy | hy
          · obtain ⟨h1, h2, h3⟩ := okf3 y hy
            exact ⟨by rw [upd_ne h2]; exact h1, h2, h3⟩
          · rw [List.mem_singleton.mp hy]
            exact ⟨by rw [upd_ne ox3.al]; exact ox3.ha, ox3.al, ox3.ad⟩
        · exact fun y hy => (oks3 y hy).keep (Keep.refl _ _ _).l
        · exact ox3.keep (Keep.refl _ _ _).l
      · have c1 : x.left ≠ 1 := fun z => c (decide_eq_true (by rw [z]))
        exact hN _ _ ⟨fr, by rw [if_neg c1, List.append_nil], Nat.le_succ _, rfl, s3, gf3, gw3, okf3, oks3, ox3⟩
    · obtain ⟨fr', ef, lf, rfl, s4, gf4, gw4, okf4, oks4, ox4⟩ := h4
      have l60 : x.left ≤ 60 := by have := ox4.low; omega
      have one := ox4.one
      refine ⟨_, rfl, .inl ⟨rfl, _, SqL.of gw4⟩, _, rfl, _, 1, rfl, rfl, 2, x.left + 1, rfl, ⟨by decide, by decide, by omega, by omega⟩, fun D hD => lc_range (lo := 2) (n := (x.left + 1 - 2).toNat) (fun j H'' => Same H4 (wo H'' D) ∧ ∃ ks : List Wt, H'' D = some (.lst (ks.map fun x => V.ref x.t)) ∧ (∀ y ∈ ks, y.Ok H'' pf pw top ∧ y.a ≠ D) ∧ ks.map Wt.pr = kids x.row x.left j) ?_ ?_ ?_⟩
      · exact ⟨by rw [wo_upd]; exact same_wo (Same.refl _) hD, [], upd_same, fun y hy => absurd hy List.not_mem_nil, rfl⟩
      · rintro j H5 hj ⟨s5, ks, gD, okk, ek⟩
        refine ⟨rfl, ?_⟩
        have ox5 := (ox4.keep (Keep.of s5)).keep (Keep.of (wo_same (H := H5) (D := D)))
        have lk : ks.length ≤ 60 := by
          have e := congrArg List.length ek
          rw [List.length_map] at e
          unfold kids at e
          rw [List.length_map] at e
          have := dvJ_len x.left j
          omega
        refine ⟨_, rfl, _, rfl, x.left, 2 + (j : Int), rfl, rfl, by omega, rfl, _, rfl, ?_⟩
        by_cases c : x.left % (2 + (j : Int)) = 0
        · rw [decide_eq_true (congrArg V.int c)]
          refine iteT ?_
          have mem : 2 + (j : Int) ∈ dvs x.left := mem_dvs.mpr ⟨by omega, by omega, c⟩
          obtain ⟨d1, d2, d3, d4⟩ := dvs_less mem
          refine ⟨_, rfl, _, rfl, by show 1 ≤ _; omega, fun b hb => ⟨x.a, b, _, _, rfl, rfl, same_new hb _ _ ox5.ha, upd_same, by have := ox4.low; rw [List.length_map]; show _ + 1 ≤ _; omega, fun r hr => ?_⟩⟩
          have er : x.row.map V.int ++ [V.int (2 + (j : Int))] = (x.row ++ [2 + (j : Int)]).map V.int := by rw [List.map_append]; rfl
          rw [er]
          have s6 : Same H5 (upd (upd H5 b (.lst [.int (2 + (j : Int))])) r (.lst ((x.row ++ [2 + (j : Int)]).map V.int))) := (same_new hb).trans (same_new hr)
          have gr : (upd (upd H5 b (.lst [.int (2 + (j : Int))])) r (.lst ((x.row ++ [2 + (j : Int)]).map V.int))) r = some (.lst ((x.row ++ [2 + (j : Int)]).map V.int)) := upd_same
          have hr5 : H5 r = none := (same_new hb).free hr
          generalize (upd (upd H5 b (.lst [.int (2 + (j : Int))])) r (.lst ((x.row ++ [2 + (j : Int)]).map V.int))) = H6 at s6 gr ⊢
          refine ⟨_, rfl, _, rfl, x.left, 2 + (j : Int), rfl, rfl, ⟨by omega, by omega⟩, by show 2 ≤ _; omega, fun t ht => ?_⟩
          have ht5 : H5 t = none := s6.free ht
          have s7 : Same H5 (upd H6 t (.tup [.ref r, .int (x.left / (2 + (j : Int)))])) := s6.trans (same_new ht)
          have gt : (upd H6 t (.tup [.ref r, .int (x.left / (2 + (j : Int)))])) t = some (.tup [.ref r, .int (x.left / (2 + (j : Int)))]) := upd_same
          have gr7 := same_new (o := .tup [.ref r, .int (x.left / (2 + (j : Int)))]) ht _ _ gr
          generalize (upd H6 t (.tup [.ref r, .int (x.left / (2 + (j : Int)))])) = H7 at s7 gt gr7 ⊢
          have nD : ∀ y o, H5 y = some o → y ≠ r ∧ y ≠ t := fun y o e => ⟨ne_of_none e hr5, ne_of_none e ht5⟩
          have rD : r ≠ D := ((nD _ _ gD).1).symm
          have tD : t ≠ D := ((nD _ _ gD).2).symm
          have gf5 := (s5.trans wo_same) _ _ gf4
          have gw5 := (s5.trans wo_same) _ _ gw4
          have kD : Keep H7 (upd H7 D (.lst ((ks.map fun x => V.ref x.t) ++ [.ref t]))) D D := (Keep.refl _ _ _).l
          have tup_ne : ∀ y : Wt, y.Ok H5 pf pw top → y.t ≠ D := fun y oy z => by have := oy.ht; rw [z, gD] at this; cases this
          refine ⟨_, s7 _ _ gD, by rw [List.length_map]; omega, by rw [wo_upd]; exact grown2 hD s5 s7, ks ++ [⟨t, r, x.row ++ [2 + (j : Int)], x.left / (2 + (j : Int))⟩], ?_, fun y hy => ?_, ?_⟩
          · rw [upd_same, List.map_append]
            rfl
          · rcases List.mem_append.mp hy with hy | hy
            · obtain ⟨oy, ny⟩ := okk y hy
              have tn := tup_ne y oy
              have oy7 := oy.keep (Keep.of s7)
              exact ⟨⟨kD _ _ oy7.ht tn tn, kD _ _ oy7.ha ny ny, oy.tl, oy.td, oy.al, oy.ad, oy.one, oy.low⟩, ny⟩
            · rw [List.mem_singleton.mp hy]
              refine ⟨⟨kD _ _ gt tD tD, kD _ _ gr7 rD rD, ((nD _ _ gf5).2).symm, ((nD _ _ gw5).2).symm, ((nD _ _ gf5).1).symm, ((nD _ _ gw5).1).symm, d1, ?_⟩, rD⟩
              show (((x.row ++ [2 + (j : Int)]).length : Nat) : Int) + x.left / (2 + (j : Int)) ≤ top
              have := ox4.low
              rw [List.length_append]
              show ((x.row.length + 1 : Nat) : Int) + _ ≤ top
              omega
          · rw [List.map_append, ek]
            unfold kids
            rw [dvJ_succ, if_pos c, List.map_append]
            rfl
        · rw [decide_eq_false (fun z => c (by injection z))]
          refine iteF ⟨s5, ks, gD, okk, ?_⟩
          rw [ek]
          unfold kids
          rw [dvJ_succ, if_neg c, List.append_nil]
      · rintro H5 ⟨s5, ks, gD, okk, ek⟩
        rw [show (x.left + 1 - 2).toNat = (x.left - 1).toNat by omega] at ek
        have s45 := s5.trans (wo_same (H := H5) (D := D))
        have gw5 := s45 _ _ gw4
        have gf5 := s45 _ _ gf4
        have nDw : D ≠ pw := (ne_of_none gw4 hD).symm
        have lks := wks_len (ks.map Wt.pr)
        have lsr := wks_len (sr.map Wt.pr)
        rw [List.length_map] at lks lsr
        rw [ek] at lks
        refine ⟨pw, D, _, _, rfl, rfl, gw5, gD, by rw [List.length_map, List.length_map]; omega, ?_⟩
        have e2 : (sr ++ ks).map Wt.pr = sr.map Wt.pr ++ kids x.row x.left (x.left - 1).toNat := by rw [List.map_append, ek]
        refine ⟨_, ?_, fr', sr ++ ks, _, _, rfl, ?_, ?_, ?_, ?_, ?_, ?_, rfl, ?_⟩
        · rw [e2, wks_app]
          omega
        · exact fun b o e => by rw [upd_ne (ne_of_none e npw)]; exact (s4.trans s45) b o e
        · rw [upd_ne n1]
          exact gf5
        · rw [upd_same, List.map_append]
        · intro y hy
          obtain ⟨h1, h2, h3⟩ := okf4 y hy
          exact ⟨by rw [upd_ne h3]; exact s45 _ _ h1, h2, h3⟩
        · intro y hy
          rcases List.mem_append.mp hy with hy | hy
          · exact ((oks4 y hy).keep (Keep.of s45)).keep (Keep.refl _ _ _).d
          · exact (okk y hy).1.keep (Keep.refl _ _ _).d
        · rw [ef, e2, gives_app]
          exact pm
        · rw [e2, wks_app]
          omega
end
end Sq

set_option Elab.async false
set_option linter.all false
set_option maxRecDepth 100000
set_option maxHeartbeats 4000000
set_option exponentiation.threshold 2000
namespace Sq
open PySem PySem.Spec PyProof.Rows L2
theorem asc_eq : ∀ {xs ys : List Int}, xs.Pairwise (· < ·) → ys.Pairwise (· < ·) → (∀ n, n ∈ xs ↔ n ∈ ys) → xs = ys
  | [], [], _, _, _ => rfl
  | [], y :: ys, _, _, h => absurd ((h y).mpr List.mem_cons_self) List.not_mem_nil
  | x :: xs, [], _, _, h => absurd ((h x).mp List.mem_cons_self) List.not_mem_nil
  | x :: xs, y :: ys, hx, hy, h => by
    have px := List.pairwise_cons.mp hx
    have py := List.pairwise_cons.mp hy
    have e : x = y := by
      rcases List.mem_cons.mp ((h x).mp List.mem_cons_self) with z | z
      · exact z
      · rcases List.mem_cons.mp ((h y).mpr List.mem_cons_self) with u | u
        · exact u.symm
        · have := py.1 x z
          have := px.1 y u
          omega
    subst e
    congr 1
    refine asc_eq px.2 py.2 fun n => ?_
    constructor
    · intro hn
      rcases List.mem_cons.mp ((h n).mp (List.mem_cons_of_mem _ hn)) with z | z
      · have := px.1 n hn
        omega
      · exact z
    · intro hn
      rcases List.mem_cons.mp ((h n).mpr (List.mem_cons_of_mem _ hn)) with z | z
      · have := py.1 n hn
        omega
      · exact z
theorem asc_of {ps S : List Int} (pm : ps.Perm S) (up : ps.Pairwise (· ≤ ·)) (nd : S.Nodup) : ps.Pairwise (· < ·) :=
  (up.and (pm.nodup_iff.mpr nd)).imp fun {x y} h => Int.lt_iff_le_and_ne.mpr h
theorem sinL_asc (row : List Int) (n : Nat) : (sinL row n).Pairwise (· < ·) := by
  unfold sinL
  refine List.Pairwise.filter _ ?_
  refine List.Pairwise.map _ (fun (r s : Nat) h => ?_) List.pairwise_lt_range
  omega
theorem mem_sinL {row : List Int} {n : Nat} {x : Int} : x ∈ sinL row n ↔ 1 ≤ x ∧ x ≤ n ∧ sq x row = 1 := by
  unfold sinL
  rw [List.mem_filter, List.mem_map]
  constructor
  · rintro ⟨⟨i, hi, e⟩, h⟩
    have := List.mem_range.mp hi
    exact ⟨by omega, by omega, of_decide_eq_true h⟩
  · rintro ⟨h1, h2, h3⟩
    exact ⟨⟨(x - 1).toNat, List.mem_range.mpr (by omega), by omega⟩, decide_eq_true h3⟩
/-- all its single runs are those up to its product -/
theorem sinL_right {row : List Int} {S : List Int} (h2 : ∀ k ∈ row, 2 ≤ k) (e : ∀ n, n ∈ S ↔ n ∈ sinL row (pro row).toNat) : Right S row :=
  ⟨h2, fun n h1 => by
    rw [e n, mem_sinL]
    have p := pro_pos h2
    constructor
    · exact fun ⟨a, _, c⟩ => ⟨a, c⟩
    · intro s
      have := single_le h2 s
      exact ⟨s.1, by omega, s.2⟩⟩
theorem right_sinL {row ps S : List Int} (pm : ps.Perm S) (up : ps.Pairwise (· ≤ ·)) (nd : S.Nodup) (pos : ∀ n ∈ S, 1 ≤ n) (h2 : ∀ k ∈ row, 2 ≤ k) : sinL row (pro row).toNat = ps ↔ Right S row := by
  have p := pro_pos h2
  constructor
  · intro e
    exact sinL_right h2 fun n => by rw [e]; exact pm.mem_iff.symm
  · intro R
    refine asc_eq (sinL_asc _ _) (asc_of pm up nd) fun n => ?_
    rw [mem_sinL, pm.mem_iff]
    constructor
    · exact fun ⟨a, b, c⟩ => (R.2 n a).mpr ⟨a, c⟩
    · intro hn
      have s := (R.2 n (pos n hn)).mp hn
      have := single_le h2 s
      exact ⟨s.1, by omega, s.2⟩
theorem right_max {row S : List Int} (R : Right S row) (pos : ∀ n ∈ S, 1 ≤ n) {m : Int} (hm : m ∈ S) (top : ∀ y ∈ S, y ≤ m) : pro row = m := by
  have st := single_top R.1
  have a := top _ ((R.2 _ st.1).mpr st)
  have b := single_le R.1 ((R.2 m (pos m hm)).mp hm)
  omega
noncomputable def rightB (S row : List Int) : Bool := @decide (Right S row) (Classical.propDecidable _)
theorem rightB_iff {S row : List Int} : rightB S row = true ↔ Right S row := by
  unfold rightB
  exact @decide_eq_true_iff _ (Classical.propDecidable _)
theorem filter_step {α : Type} {p : α → Bool} {xs : List α} {i : Nat} {x : α} (h : xs[i]? = some x) : (xs.take (i + 1)).filter p = (xs.take i).filter p ++ (if p x = true then [x] else []) := by
  rw [List.take_add_one, h, List.filter_append]
  congr 1
  by_cases c : p x = true
  · rw [if_pos c]
    exact List.filter_cons_of_pos c
  · rw [if_neg c]
    exact List.filter_cons_of_neg c
/-- a nodup list has at most one such -/
theorem filter_uniq {α : Type} {p : α → Bool} : ∀ {xs : List α} {r : α}, xs.Nodup → r ∈ xs → (∀ x ∈ xs, p x = true ↔ x = r) → xs.filter p = [r]
  | x :: xs, r, nd, hr, h => by
    have nd' := List.nodup_cons.mp nd
    by_cases c : x = r
    · subst c
      rw [List.filter_cons_of_pos ((h x List.mem_cons_self).mpr rfl)]
      congr 1
      refine List.filter_eq_nil_iff.mpr fun y hy z => ?_
      exact nd'.1 ((h y (List.mem_cons_of_mem _ hy)).mp z ▸ hy)
    · rw [List.filter_cons_of_neg (fun z => c ((h x List.mem_cons_self).mp z))]
      rcases List.mem_cons.mp hr with z | z
      · exact absurd z.symm c
      · exact filter_uniq nd'.2 z fun y hy => h y (List.mem_cons_of_mem _ hy)
theorem le_pro : ∀ {ks : List Int} {k : Int}, (∀ x ∈ ks, 2 ≤ x) → k ∈ ks → k ≤ pro ks
  | x :: ks, k, h, hk => by
    have x2 := h x List.mem_cons_self
    have ht : ∀ y ∈ ks, 2 ≤ y := fun y hy => h y (List.mem_cons_of_mem _ hy)
    have p := pro_pos ht
    rw [pro_cons]
    rcases List.mem_cons.mp hk with rfl | hk
    · have := Int.mul_le_mul_of_nonneg_left p (show 0 ≤ k by omega)
      omega
    · have a := le_pro ht hk
      have := Int.mul_le_mul_of_nonneg_right (show 1 ≤ x by omega) (show 0 ≤ pro ks by omega)
      omega
theorem gives_len : ∀ (m : Nat) (st : List (List Int × Int)), wks st ≤ m → (∀ x ∈ st, 1 ≤ x.2) → (gives st).length ≤ wks st
  | _, [], _, _ => Nat.zero_le _
  | 0, x :: st, h, _ => by
    have := wks_len (x :: st)
    rw [List.length_cons] at this
    omega
  | m + 1, x :: st, h, hp => by
    have e : x :: st = [x] ++ st := rfl
    have x1 := hp x List.mem_cons_self
    have ew : wks (x :: st) = wks [(x.1, x.2)] + wks st := by rw [e, wks_app]
    have eg : gives (x :: st) = gives [(x.1, x.2)] ++ gives st := by rw [e, gives_app]
    rw [wks_one x.1 x1] at ew
    rw [eg, gives_one x.1 x1, List.length_append, List.length_append]
    have hk : ∀ y ∈ kids x.1 x.2 (x.2 - 1).toNat, 1 ≤ y.2 := fun y hy => by
      obtain ⟨k, hk, ey⟩ := List.mem_map.mp hy
      rw [← ey]
      exact (dvs_less hk).1
    have a := gives_len m (kids x.1 x.2 (x.2 - 1).toNat) (by omega) hk
    have b := gives_len m st (by omega) fun y hy => hp y (List.mem_cons_of_mem _ hy)
    have c : (if x.2 = 1 then [x.1] else ([] : List (List Int))).length ≤ 1 := by split <;> simp
    omega
theorem facs_len {n : Int} (h : 1 ≤ n) (l : n ≤ 60) : (facs n).length ≤ 1000 := by
  have a := gives_len _ [([], n)] (Nat.le_refl _) fun x hx => by rw [List.mem_singleton.mp hx]; exact h
  have b := wk_le h l
  have e : gives [([], n)] = facs n := by
    unfold gives
    rw [List.flatMap_cons, List.flatMap_nil, List.append_nil]
    show (facs n).map (fun x => x) = _
    rw [List.map_id']
  have e2 : wks [(([] : List Int), n)] = wk n := by show wk n + 0 = _; rw [Nat.add_zero]
  rw [e, e2] at a
  omega
section
variable {P : Program} {w : World} {K : PySem.W.Frag} {mg : Str → Option Value} {base : Heap}
def spDue (K : PySem.W.Frag) : Sp := fun vs H Q _ => ∃ (a : Addr) (S : List Int), vs = [.ref a] ∧ SqL K H a (S.map V.int) ∧ S.Nodup ∧ (∀ n ∈ S, 1 ≤ n ∧ n ≤ 60) ∧
  ((∀ row, ¬ Right S row) → ∀ H', Same H H' → Q .non H') ∧ (∀ row, Right S row → ∀ p H', Same H H' → H' p = some (.lst (row.map V.int)) → Q (.ref p) H')
theorem ok_lawdue {f : Addr} {fd : FuncData} (F : Fun K "_law_due" "_law_due" s_lawdue f fd) (B : Bi mg) (D_lawproducts : Df P w K mg base 1 "_law_products" ["top"] spProds) (D_lawsingles : Df P w K mg base 3 "_law_singles" ["row", "top"] (spSin K)) : FnOk P w K mg base CX0 4 f fd ["some"] (spDue K) := by
  refine F.ok sc_lawdue (fun vs H Q E h => ?_) (fun cdv A outer s H vs Q E hr h => ?_)
  · obtain ⟨a, S, rfl, _⟩ := h
    rfl
  · obtain ⟨a, S, rfl, hS, nd, hb, qn, qr⟩ := h
    refine ⟨_, (pss_cons (ps_if (pt_cmpR (op_eqD hr.units) (pv 0) (pe_lst pa_nil) (nomark _))
 (pss_one (ps_ret pe_non))
 pss_nil)
 (pss_cons (ps_set (i := 1) sc_lawdue.nd rfl (Or.inr rfl) (pe_callB (id := "max") (r := rMax K) (cr_max rfl) (by rfl) B.n_max (by decide +kernel) (pa_cons (pv 0) pa_nil)))
 (pss_cons (ps_setLc (own := [("row", 3)]) (g := gName 3) (i := 2) rfl sc_lawdue.nd rfl rfl (sw_true rfl rfl rfl (by decide +kernel)) (pi_list (pe_callD D_lawproducts (hr.mono (by omega)) (by rfl) (pa_cons (pv 1) pa_nil))) (blkOk_by (own := [("row", 3)]) (N := ["some", "top", "found", "row"]) (sc := defScope s_lawdue) (by decide +kernel)) (fun _ _ _ _ _ => (pg_name (i := 3) sc_lawdue.nd rfl (Or.inl rfl))) (fun _ _ _ _ _ => pts_one (pt_cmpR (r := rEqD K) (op_eqD hr.units) (pe_callD D_lawsingles (hr.mono (by omega)) (by rfl) (pa_cons (pv 3) (pa_cons (pv 1) pa_nil))) (pe_callB (id := "sorted") (r := rSortedI K) cr_sortedI (by rfl) B.n_sorted (by decide +kernel) (pa_cons (pv 0) pa_nil)) (nomark _))) (fun _ _ _ _ _ => (pv 3)))
 (pss_one (ps_ret (pe_ifExp (pt_cmpR op_eq (pe_callB (id := "len") (r := rLenK K) call_lenK (by rfl) B.n_len (by decide +kernel) (pa_cons (pv 2) pa_nil)) pe_int (nomark _)) (pe_ix (r := rIxL K) ix_list (pv 2) pe_int (fun _ _ => rfl)) pe_non)))))), ?_⟩
    have lim : sizeLine = 16777216 := sizeLine_eq
    have pos : ∀ n ∈ S, 1 ≤ n := fun n h => (hb n h).1
    refine ⟨_, rfl, Nat.zero_le _, fun e he => ⟨_, _, .lst ((same_new he).seq hS) (dp_ints S), .lst (SqL.of upd_same) .nil, shaped_ints S, rfl, _, rfl, ?_⟩⟩
    have ev : PyData.eqv (.list (S.map PyData.int)) (.list []) = decide (S = []) := eqv_ints S []
    rw [ev]
    have s1 : Same H (upd H e (.lst [])) := same_new he
    have hS1 := s1.seq hS
    generalize upd H e (.lst []) = H1 at s1 hS1 ⊢
    refine ite2 (fun c => ?_) (fun c => ?_)
    · have c := of_decide_eq_true c
      subst c
      exact qn (fun row R => absurd ((R.2 _ (single_top R.1).1).mpr (single_top R.1)) List.not_mem_nil) _ s1
    have ne : S ≠ [] := fun z => c (decide_eq_true z)
    refine ⟨_, rfl, a, S, rfl, hS1, List.length_pos_iff.mpr ne, fun top tm tl => ?_⟩
    have tb := hb top tm
    refine ⟨_, rfl, top, rfl, tb.1, tb.2, fun p fr H2 hp s2 gp okf pm => ⟨p, rfl, ⟨_, SqL.of gp⟩, fun D hD => lc_list (K := K) (a := p) (xs := fr.map fun x => V.ref x.1) (fun i H' => Same H2 (wo H' D) ∧ H' D = some (.lst (((fr.take i).filter fun x => rightB S x.2).map fun x => V.ref x.1))) ⟨by rw [wo_upd]; exact same_wo (Same.refl _) hD, upd_same⟩ (fun i H' _ h => SqL.of (wo_same _ _ (h.1 _ _ gp))) ?_ ?_⟩⟩
    · rintro i v H' hv ⟨s3, g3⟩
      rw [List.getElem?_map] at hv
      obtain ⟨x, ex, rfl⟩ := Option.map_eq_some_iff.mp hv
      have hx : x ∈ fr := List.mem_of_getElem? ex
      have s23 := s3.trans (wo_same (H := H') (D := D))
      have mf : x.2 ∈ facs top := pm.mem_iff.mp (List.mem_map.mpr ⟨x, hx, rfl⟩)
      obtain ⟨x2, xp⟩ := (mem_facs tb.1).mp mf
      have xb : ∀ k ∈ x.2, 2 ≤ k ∧ k < 1073741824 := fun k hk => by
        have := le_pro x2 hk
        exact ⟨x2 k hk, by omega⟩
      refine ⟨rfl, ?_⟩
      refine ⟨_, rfl, _, rfl, x.1, x.2, top, rfl, SqL.of (s23 _ _ (okf x hx)), xb, by omega, by omega, fun p5 H5 hp5 s5 g5 => ?_⟩
      have s25 := s23.trans s5
      refine ⟨_, rfl, a, S, rfl, (s2.trans s25).seq hS1, fun ps q5 pm5 up5 hq5 => ⟨_, _, .lst (SqL.of (same_new hq5 _ _ g5)) (dp_ints _), .lst (SqL.of upd_same) (dp_ints ps), shaped_ints _, shaped_ints ps, _, rfl, ?_⟩⟩
      rw [eqv_ints, ← xp]
      have iff' : sinL x.2 (pro x.2).toNat = ps ↔ Right S x.2 := right_sinL pm5 up5 nd pos x2
      have sD := grown2 hD s3 (s5.trans (same_new (o := .lst (ps.map V.int)) hq5))
      have gD := same_new (o := .lst (ps.map V.int)) hq5 _ _ (s5 _ _ g3)
      by_cases c : Right S x.2
      · rw [decide_eq_true (iff'.mpr c)]
        refine iteT ⟨_, rfl, _, gD, ?_, ?_, ?_⟩
        · rw [List.length_map]
          have l1 := List.length_filter_le (fun x : Addr × List Int => rightB S x.2) (fr.take i)
          have l2 := List.length_take_le i fr
          have l3 := (List.getElem?_eq_some_iff.mp ex).1
          have l4 := pm.length_eq
          rw [List.length_map] at l4
          have l5 := facs_len tb.1 tb.2
          omega
        · rw [wo_upd]
          exact sD
        · rw [upd_same, filter_step ex, if_pos (rightB_iff.mpr c), List.map_append]
          rfl
      · rw [decide_eq_false (fun z => c (iff'.mp z))]
        refine iteF ⟨sD, ?_⟩
        rw [filter_step ex, if_neg (fun z => c (rightB_iff.mp z)), List.append_nil]
        exact gD
    · rintro H3 ⟨s3, g3⟩
      rw [List.length_map, List.take_length] at g3
      have s23 := s3.trans (wo_same (H := H3) (D := D))
      have sF := (s1.trans s2).trans s23
      refine ⟨_, rfl, D, _, rfl, .inl (SqL.of g3), rfl, _, rfl, ?_⟩
      rw [List.length_map]
      by_cases c : ∃ row, Right S row
      · obtain ⟨row, R⟩ := c
        have pr : pro row = top := right_max R pos tm tl
        have rf : row ∈ fr.map fun x => x.2 := pm.mem_iff.mpr ((mem_facs tb.1).mpr ⟨R.1, pr⟩)
        have ndf : (fr.map fun x => x.2).Nodup := pm.nodup_iff.mpr (nodup_facs top)
        have fu := filter_uniq (p := fun r => rightB S r) ndf rf fun r _ => rightB_iff.trans ⟨fun R2 => right_uniq R2 R, fun e => e ▸ R⟩
        rw [List.filter_map] at fu
        obtain ⟨z, ez⟩ : ∃ z, (fr.filter fun x => rightB S x.2) = [z] := by
          have l := congrArg List.length fu
          rw [List.length_map] at l
          exact List.length_eq_one_iff.mp l
        have ez' : fr.filter ((fun r => rightB S r) ∘ fun x => x.2) = [z] := ez
        rw [ez'] at fu
        have zr : z.2 = row := by
          injection fu
        have zm : z ∈ fr := (List.mem_filter.mp (show z ∈ fr.filter fun x => rightB S x.2 by rw [ez]; exact List.mem_singleton.mpr rfl)).1
        rw [ez] at g3 ⊢
        refine iteT ⟨_, rfl, D, _, 0, .ref z.1, rfl, rfl, SqL.of g3, rfl, ?_⟩
        exact qr row R z.1 H3 sF (by rw [s23 _ _ (okf z zm), zr])
      · have e0 : (fr.filter fun x => rightB S x.2) = [] := List.filter_eq_nil_iff.mpr fun x _ z => c ⟨_, rightB_iff.mp z⟩
        rw [e0]
        exact iteF (qn (fun row R => c ⟨row, R⟩) H3 sF)
end
end Sq

set_option Elab.async false
set_option linter.all false
set_option maxHeartbeats 1000000
/-! The single runs of a list, from its last replacement to its first. -/
namespace Sq
theorem backAll_pos {k : Int} (hk : 2 ≤ k) {after : List Int} (hm : ∀ m ∈ after, 1 ≤ m) : ∀ n ∈ backAll k after, 1 ≤ n := fun n h => ((mem_backAll hk hm).mp h).1
theorem right_back {k : Int} {S row : List Int} (hk : 2 ≤ k) (pos : ∀ m ∈ S, 1 ≤ m) (R : Right S row) : Right (backAll k S) (k :: row) := by
  refine ⟨fun q hq => ?_, fun n h1 => ?_⟩
  · rcases List.mem_cons.mp hq with z | z
    · rw [z]; exact hk
    · exact R.1 q z
  · rw [mem_backAll hk pos, single_step hk h1, ← R.2 _ (once_pos hk h1)]
    exact ⟨fun h => h.2, fun h => ⟨h1, h⟩⟩
def allS : List Int → List Int
  | [] => [1]
  | k :: r => backAll k (allS r)
theorem allS_all : ∀ {row : List Int}, (∀ k ∈ row, 2 ≤ k) → Right (allS row) row ∧ (∀ n ∈ allS row, 1 ≤ n) ∧ (allS row).Nodup
  | [], _ => ⟨(right_one []).mpr rfl, fun n h => by rw [List.mem_singleton.mp h]; decide, List.nodup_cons.mpr ⟨List.not_mem_nil, List.nodup_nil⟩⟩
  | k :: r, h => by
    have k2 := h k List.mem_cons_self
    obtain ⟨a, b, c⟩ := allS_all (row := r) fun x hx => h x (List.mem_cons_of_mem _ hx)
    exact ⟨right_back k2 b a, backAll_pos k2 b, backAll_nodup k2 b c⟩
theorem allS_le {row : List Int} (h : ∀ k ∈ row, 2 ≤ k) : ∀ n ∈ allS row, 1 ≤ n ∧ n ≤ pro row := fun n hn => by
  obtain ⟨a, b, _⟩ := allS_all h
  have := b n hn
  exact ⟨this, single_le h ((a.2 n this).mp hn)⟩
theorem allS_len {k : Int} (hk : 2 ≤ k) (r : List Int) (h : ∀ x ∈ r, 2 ≤ x) : (allS r).length ≤ (allS (k :: r)).length := by
  have := many_two hk (after := allS r) (allS_all h).2.1
  rw [← backAll_len] at this
  show _ ≤ (backAll k (allS r)).length
  omega
theorem allS_drop : ∀ {row : List Int} (h : ∀ x ∈ row, 2 ≤ x) (j : Nat), (allS (row.drop j)).length ≤ (allS row).length ∧ pro (row.drop j) ≤ pro row
  | [], h, j => by rw [List.drop_nil]; exact ⟨Nat.le_refl _, Int.le_refl _⟩
  | k :: r, h, 0 => ⟨Nat.le_refl _, Int.le_refl _⟩
  | k :: r, h, j + 1 => by
    have k2 := h k List.mem_cons_self
    have hr : ∀ x ∈ r, 2 ≤ x := fun x hx => h x (List.mem_cons_of_mem _ hx)
    obtain ⟨a, b⟩ := allS_drop hr j
    have l := allS_len k2 r hr
    have p := pro_pos hr
    rw [List.drop_succ_cons]
    refine ⟨Nat.le_trans a l, Int.le_trans b ?_⟩
    rw [pro_cons]
    have := Int.mul_le_mul_of_nonneg_right (show 1 ≤ k by omega) (show 0 ≤ pro r by omega)
    omega
theorem backAll_step {k : Int} {xs : List Int} {i : Nat} {m : Int} (h : xs[i]? = some m) : backAll k (xs.take (i + 1)) = backAll k (xs.take i) ++ backOne k m := by
  unfold backAll
  rw [List.take_add_one, h, List.flatMap_append]
  congr 1
  show [m].flatMap _ = _
  rw [List.flatMap_cons, List.flatMap_nil, List.append_nil]
def backJ (k m : Int) (j : Nat) : List Int := (List.range j).map fun r : Nat => k * (m - r) + r
theorem backJ_succ (k m : Int) (j : Nat) : backJ k m (j + 1) = backJ k m j ++ [k * (m - j) + j] := by
  unfold backJ
  rw [List.range_succ, List.map_append]
  rfl
theorem backJ_all (k m : Int) : backJ k m (manyOne k m) = backOne k m := rfl
theorem backJ_len (k m : Int) (j : Nat) : (backJ k m j).length = j := by
  unfold backJ
  rw [List.length_map, List.length_range]
theorem back_elt (k m r : Int) : m * k - r * (k - 1) = k * (m - r) + r := by
  rw [Int.mul_sub, Int.mul_sub, Int.mul_one, Int.mul_comm m k, Int.mul_comm r k]
  omega
theorem many_if {k m : Int} (hk : 2 ≤ k) (hm : 1 ≤ m) : (if m < k - 1 then m else k - 1) + 1 = (manyOne k m : Nat) := by
  unfold manyOne
  split <;> omega
theorem backAll_part (k : Int) (xs : List Int) (i : Nat) : (backAll k (xs.take i)).length ≤ (backAll k xs).length := by
  conv => rhs; rw [← List.take_append_drop i xs]
  unfold backAll
  rw [List.flatMap_append, List.length_append]
  exact Nat.le_add_right _ _
end Sq

set_option Elab.async false
set_option linter.all false
set_option maxRecDepth 100000
set_option maxHeartbeats 4000000
set_option exponentiation.threshold 2000
namespace Sq
open PySem PySem.Spec PyProof.Rows L2
theorem take_rev {α : Type} (xs : List α) (i : Nat) : (xs.reverse.take i).reverse = xs.drop (xs.length - i) := by
  rw [List.take_reverse, List.reverse_reverse]
theorem take_rev_step {α : Type} {xs : List α} {i : Nat} {x : α} (h : xs.reverse[i]? = some x) : (xs.reverse.take (i + 1)).reverse = x :: (xs.reverse.take i).reverse := by
  rw [List.take_add_one, h, List.reverse_append]
  rfl
section
variable {P : Program} {w : World} {K : PySem.W.Frag} {mg : Str → Option Value} {base : Heap}
def spDueRuns (K : PySem.W.Frag) : Sp := fun vs H Q _ => ∃ (a : Addr) (row : List Int), vs = [.ref a] ∧ SqL K H a (row.map V.int) ∧ (∀ k ∈ row, 2 ≤ k) ∧ pro row ≤ 1000000 ∧ (allS row).length ≤ 2000 ∧
  ∀ (p : Addr) (ps : List Int) (H' : Hp), Same H H' → H' p = some (.lst (ps.map V.int)) → ps.Perm (allS row) → ps.Pairwise (· ≤ ·) → Q (.ref p) H'
theorem ok_lawdueruns {f : Addr} {fd : FuncData} (F : Fun K "_law_due_runs" "_law_due_runs" s_lawdueruns f fd) (B : Bi mg) : FnOk P w K mg base CX0 1 f fd ["row"] (spDueRuns K) := by
  refine F.ok sc_lawdueruns (fun vs H Q E h => ?_) (fun cdv A outer s H vs Q E hr h => ?_)
  · obtain ⟨a, row, rfl, _⟩ := h
    rfl
  · obtain ⟨a, row, rfl, hS, h2, hp, hl, q⟩ := h
    refine ⟨_, (pss_cons (ps_set (i := 1) sc_lawdueruns.nd rfl (Or.inl rfl) (pe_lst (pa_cons pe_int pa_nil)))
 (pss_cons (ps_for PassesOwn.never rfl (pi_list (pe_revL (pv 0))) (pg_name (i := 2) sc_lawdueruns.nd rfl (Or.inr rfl))
 (pss_cons (ps_set (i := 3) sc_lawdueruns.nd rfl (Or.inl rfl) (pe_lst pa_nil))
 (pss_cons (ps_for PassesOwn.never rfl (pi_list (pv 1)) (pg_name (i := 4) sc_lawdueruns.nd rfl (Or.inr rfl))
 (pss_one (ps_expr (pe_bm PySem.F.plainAttrs_list PySem.F.slot_list_extend PySem.F.type_list_extend mt_extend (pv 3) (pa_cons (pe_lc (own := [("rest", 5)]) (g := gName 5) rfl sc_lawdueruns.nd (pi_range1 (by rfl) B.n_range (pa_cons (pe_op op_add (pe_callB (id := "min") (call_min2 rfl) (by rfl) B.n_min (by decide +kernel) (pa_cons (pe_op op_sub (pv 2) pe_int) (pa_cons (pv 4) pa_nil))) pe_int) pa_nil)) (blkOk_by (own := [("rest", 5)]) (N := ["row", "found", "one", "longer", "run", "rest"]) (sc := defScope s_lawdueruns) (by decide +kernel)) (fun _ _ _ _ _ => (pg_name (i := 5) sc_lawdueruns.nd rfl (Or.inl rfl))) (fun _ _ _ _ _ => pts_nil) (fun _ _ _ _ _ => (pe_op op_sub (pe_op op_mul (pv 4) (pv 2)) (pe_op op_mul (pv 5) (pe_op op_sub (pv 2) pe_int))))) pa_nil)))))
 (pss_one (ps_set (i := 1) sc_lawdueruns.nd rfl (Or.inl rfl) (pv 3))))))
 (pss_one (ps_ret (pe_callB (id := "sorted") (r := rSortedI K) cr_sortedI (by rfl) B.n_sorted (by decide +kernel) (pa_cons (pv 1) pa_nil)))))), ?_⟩
    have lim : sizeLine = 16777216 := sizeLine_eq
    refine ⟨by show 1 ≤ _; omega, fun f0 hf0 => ?_⟩
    have s1 : Same H (upd H f0 (.lst [.int 1])) := same_new hf0
    have g1 : (upd H f0 (.lst [.int 1])) f0 = some (.lst ((allS []).map V.int)) := upd_same
    have hS1 := s1.seq hS
    generalize upd H f0 (.lst [.int 1]) = H1 at s1 g1 hS1 ⊢
    refine ⟨_, rfl, a, _, rfl, hS1, fun rv hrv => ?_⟩
    have s2 := s1.trans (same_new (o := .lst (row.map V.int).reverse) hrv)
    have g2 := same_new (o := .lst (row.map V.int).reverse) hrv _ _ g1
    have gr : (upd H1 rv (.lst (row.map V.int).reverse)) rv = some (.lst (row.reverse.map V.int)) := by rw [upd_same, List.map_reverse]
    generalize upd H1 rv (.lst (row.map V.int).reverse) = H2 at s2 g2 gr ⊢
    refine ⟨rv, rfl, ⟨_, SqL.of gr⟩, for_list (K := K) (a := rv) (xs := row.reverse.map V.int) (fun i σ H' => ∃ fa y2 y3 y4 y5, σ = [some (.ref a), some (.ref fa), y2, y3, y4, y5] ∧ Same H2 H' ∧ H' fa = some (.lst ((allS (row.reverse.take i).reverse).map V.int))) ?_ ?_ ?_ ?_⟩
    · exact ⟨f0, _, _, _, _, rfl, Same.refl _, g2⟩
    · rintro i σ H' hi ⟨fa, y2, y3, y4, y5, rfl, s3, g3⟩
      exact SqL.of (s3 _ _ gr)
    · rintro i v σ H' hv ⟨fa, y2, y3, y4, y5, rfl, s3, g3⟩
      obtain ⟨k, ek, rfl⟩ := map_at hv
      have kr : k ∈ row := List.mem_reverse.mp (List.mem_of_getElem? ek)
      have k2 := h2 k kr
      have kp := le_pro h2 kr
      have il : i < row.length := by
        have := (List.getElem?_eq_some_iff.mp ek).1
        rwa [List.length_reverse] at this
      have step := take_rev_step ek
      have bd := allS_drop h2 (row.length - i)
      have bd1 := allS_drop h2 (row.length - (i + 1))
      rw [← take_rev row i] at bd
      rw [← take_rev row (i + 1), step] at bd1
      have two : ∀ x ∈ (row.reverse.take i).reverse, 2 ≤ x := fun x hx => h2 x (List.mem_reverse.mp (List.mem_of_mem_take (List.mem_reverse.mp hx)))
      have pos := allS_le two
      rw [step]
      generalize (row.reverse.take i).reverse = suf at g3 bd bd1 two pos step ⊢
      have len1 : (backAll k (allS suf)).length ≤ 2000 := Nat.le_trans bd1.1 hl
      refine ⟨Nat.zero_le _, fun lg hlg => ?_⟩
      have s4 : Same H' (upd H' lg (.lst [])) := same_new hlg
      have gl : (upd H' lg (.lst [])) lg = some (.lst ((backAll k ((allS suf).take 0)).map V.int)) := by rw [upd_same]; rfl
      have g4 := s4 _ _ g3
      have lf : lg ≠ fa := (ne_of_none g3 hlg).symm
      generalize upd H' lg (.lst []) = H4 at s4 gl g4 ⊢
      refine ⟨_, rfl, fa, rfl, ⟨_, SqL.of g4⟩, for_list (K := K) (a := fa) (xs := (allS suf).map V.int) (fun j σ H'' => ∃ y4 y5, σ = [some (.ref a), some (.ref fa), some (.int k), some (.ref lg), y4, y5] ∧ Same H' (wo H'' lg) ∧ H'' lg = some (.lst ((backAll k ((allS suf).take j)).map V.int))) ?_ ?_ ?_ ?_⟩
      · exact ⟨_, _, rfl, same_wo s4 hlg, gl⟩
      · rintro j σ H5 hj ⟨y4, y5, rfl, s5, g5⟩
        exact SqL.of ((s5.trans wo_same) _ _ g3)
      · rintro j v σ H5 hv2 ⟨y4, y5, rfl, s5, g5⟩
        obtain ⟨m, em, rfl⟩ := map_at hv2
        have mb := pos m (List.mem_of_getElem? em)
        have mi := many_if k2 mb.1
        have part := backAll_part k (allS suf) (j + 1)
        rw [backAll_step em, List.length_append] at part
        have lb : (backOne k m).length = manyOne k m := by rw [← backJ_all, backJ_len]
        refine ⟨_, rfl, .inl ⟨rfl, _, SqL.of g5⟩, _, rfl, _, 1, rfl, rfl, _, rfl, k - 1, m, rfl, _, 1, rfl, rfl, _, rfl, ?_⟩
        dsimp only
        rw [mi]
        refine ⟨by omega, by omega, fun D hD => lc_range (lo := 0) (n := ((manyOne k m : Nat) : Int).toNat) (fun r H'' => Same H5 (wo H'' D) ∧ H'' D = some (.lst ((backJ k m r).map V.int))) ⟨by rw [wo_upd]; exact same_wo (Same.refl _) hD, upd_same⟩ ?_ ?_⟩
        · rintro r H6 hr6 ⟨s6, g6⟩
          rw [Int.toNat_natCast] at hr6
          have rb : (r : Int) ≤ 2000 := by omega
          refine ⟨rfl, ?_⟩
          refine ⟨_, rfl, _, rfl, m, k, rfl, rfl, .inl ⟨by omega, by omega⟩, _, rfl, _, rfl, k, 1, rfl, rfl, 0 + (r : Int), k - 1, rfl, rfl, .inl ⟨by omega, by omega⟩, _, _, rfl, rfl, _, g6, ?_, ?_, ?_⟩
          · rw [List.length_map, backJ_len]
            omega
          · rw [wo_upd]
            exact s6
          · rw [upd_same, backJ_succ, List.map_append]
            dsimp only
            rw [Int.zero_add, back_elt]
            rfl
        · rintro H6 ⟨s6, g6⟩
          rw [Int.toNat_natCast, backJ_all] at g6
          have s56 := s6.trans (wo_same (H := H6) (D := D))
          refine ⟨lg, D, _, _, rfl, rfl, s56 _ _ g5, g6, by rw [List.length_map, List.length_map]; omega, _, _, rfl, ?_, ?_⟩
          · rw [wo_upd]
            exact grown2 hlg s5 s56
          · rw [upd_same, backAll_step em, List.map_append]
      · rintro σ H5 ⟨y4, y5, rfl, s5, g5⟩
        rw [List.length_map, List.take_length] at g5
        exact ⟨_, rfl, lg, _, _, _, _, rfl, s3.trans (s5.trans wo_same), g5⟩
    · rintro σ H' ⟨fa, y2, y3, y4, y5, rfl, s3, g3⟩
      rw [List.length_map, List.take_length, List.reverse_reverse] at g3
      refine ⟨_, rfl, fa, _, rfl, SqL.of g3, fun ps p pm up hp' => ?_⟩
      exact q p ps _ ((s2.trans s3).trans (same_new hp')) upd_same pm up
end
end Sq

set_option Elab.async false
set_option linter.all false
set_option maxRecDepth 100000
set_option maxHeartbeats 4000000
set_option exponentiation.threshold 2000
namespace Sq
open PySem PySem.Spec PyProof.Rows L2
theorem ldAll_ints : ∀ xs : List Int, ldAll (xs.map PyData.int) = true
  | [] => rfl
  | x :: xs => by
    show (true && ldAll (xs.map PyData.int)) = true
    rw [ldAll_ints xs]
    rfl
theorem ld_list {xs : List Int} (h : xs.length ≤ 1000) : ld (.list (xs.map PyData.int)) = true := by
  show (decide ((xs.map PyData.int).length ≤ 1000) && ldAll (xs.map PyData.int)) = true
  rw [ldAll_ints, List.length_map, decide_eq_true h]
  rfl
theorem dep_list (xs : List Int) : (PyData.list (xs.map PyData.int)).depth < 4 := by
  show PyData.depthAll (xs.map PyData.int) + 1 < 4
  have := deep_ints xs
  omega
structure Few (ps : List Int) (x : Int) (zs : List Int) : Prop where
  len : zs.length ≤ 2000
  bd : ∀ n ∈ zs, 1 ≤ n ∧ n ≤ 1000001
  up : zs.Pairwise (· ≤ ·)
  no : x ∉ zs
def GrInv (H : Hp) (l d : Addr) (mix cnt : Int) (i : Nat) (σ : L2.St) (H' : Hp) : Prop := ∃ (row : List Int) (pr sm : Addr) (c' : Int), ∃ y4 y5 y6 y7 y8 y9, σ = [some (.ref l), some (.ref pr), some (.int (pro row)), some (.ref sm), y4, y5, y6, y7, y8, y9, none, none, none] ∧ Src H' l d mix c' ∧ c' ≤ cnt + 1 + 2 * (i : Int) ∧ Keep H H' l d ∧
  H' pr = some (.lst (row.map V.int)) ∧ H' sm = some (.lst ((allS row).map V.int)) ∧ (pr ≠ l ∧ pr ≠ d ∧ sm ≠ l ∧ sm ≠ d) ∧ (∀ k ∈ row, 2 ≤ k) ∧ row.length ≤ i ∧ pro row ≤ 1000000 ∧ (allS row).length ≤ 2000
section
variable {P : Program} {w : World} {K : PySem.W.Frag} {mg : Str → Option Value} {base : Heap}
def spGreatRight : Sp := fun vs H Q _ => ∃ (l d : Addr) (mix cnt : Int), vs = [.ref l] ∧ Src H l d mix cnt ∧ cnt < 400000 ∧
  ∀ c' H', Src H' l d mix c' → c' ≤ cnt + 8 → Keep H H' l d → Q (.bl true) H'
theorem ok_lawgreatright {f : Addr} {fd : FuncData} (F : Fun K "_law_great_right" "_law_great_right" s_lawgreatright f fd) (B : Bi mg) (D_lawdraw : Df P w K mg base 1 "_law_draw" ["source", "many"] spDraw)
    (D_listof : Df P w K mg base 2 "list_of" ["singles"] (spListOf K)) (D_lawdueruns : Df P w K mg base 1 "_law_due_runs" ["row"] (spDueRuns K)) (D_lawsame : Df P w K mg base 5 "_law_same" ["found", "wanted"] (spSame K 4)) : FnOk P w K mg base CX0 6 f fd ["source"] spGreatRight := by
  refine F.ok sc_lawgreatright (fun vs H Q E h => ?_) (fun cdv A outer s H vs Q E hr h => ?_)
  · obtain ⟨l, d, mix, cnt, rfl, _⟩ := h
    rfl
  · obtain ⟨l, d, mix, cnt, rfl, S, hc, q⟩ := h
    refine ⟨_, (pss_cons (ps_par3 (i := 1) (j := 2) (l := 3) (by rfl) sc_lawgreatright.nd rfl rfl rfl (by decide) (by decide) (by decide) rfl rfl rfl (pa_cons (pe_lst pa_nil) (pa_cons pe_int (pa_cons (pe_lst (pa_cons pe_int pa_nil)) pa_nil))) (by rfl))
 (pss_cons (ps_for PassesOwn.never rfl (pi_range1 (by rfl) B.n_range (pa_cons (pe_op op_add pe_int (pe_callD D_lawdraw (hr.mono (by omega)) (by rfl) (pa_cons (pv 0) (pa_cons pe_int pa_nil)))) pa_nil)) (pg_name (i := 4) sc_lawgreatright.nd rfl (Or.inl rfl))
 (pss_cons (ps_set (i := 5) sc_lawgreatright.nd rfl (Or.inr rfl) (pe_op op_add pe_int (pe_callD D_lawdraw (hr.mono (by omega)) (by rfl) (pa_cons (pv 0) (pa_cons (pe_ix (r := rIxL K) ix_list (pe_lst (pa_cons pe_int (pa_cons pe_int (pa_cons (pe_op op_sub (pe_op op_pow pe_int pe_int) pe_int) pa_nil)))) (pe_callD D_lawdraw (hr.mono (by omega)) (by rfl) (pa_cons (pv 0) (pa_cons pe_int pa_nil))) (fun _ _ => rfl)) pa_nil)))))
 (pss_cons (ps_set (i := 6) sc_lawgreatright.nd rfl (Or.inl rfl) (pe_callB (id := "sum") (r := rSum K) (cr_sum rfl) (by rfl) B.n_sum (by decide +kernel) (pa_cons (pe_lc (own := [("run", 8)]) (g := gName 8) rfl sc_lawgreatright.nd (pi_list (pv 3)) (blkOk_by (own := [("run", 8)]) (N := ["source", "row", "top", "some", "time", "one", "many", "longer", "run", "rest", "at", "few", "told"]) (sc := defScope s_lawgreatright) (by decide +kernel)) (fun _ _ _ _ _ => (pg_name (i := 8) sc_lawgreatright.nd rfl (Or.inl rfl))) (fun _ _ _ _ _ => pts_nil) (fun _ _ _ _ _ => (pe_op op_add (pe_callB (id := "min") (call_min2 rfl) (by rfl) B.n_min (by decide +kernel) (pa_cons (pe_op op_sub (pv 5) pe_int) (pa_cons (pv 8) pa_nil))) pe_int))) pa_nil)))
 (pss_one (ps_if (PW.pt (pw_and (pt_cmpR op_le (pe_op op_mul (pv 2) (pv 5)) (pe_op op_pow pe_int pe_int) (nomark _)) (pw_and1 (pt_cmpR op_le (pv 6) pe_int (nomark _)))))
 (pss_cons (ps_set (i := 7) sc_lawgreatright.nd rfl (Or.inl rfl) (pe_lst pa_nil))
 (pss_cons (ps_for PassesOwn.never rfl (pi_list (pv 3)) (pg_name (i := 8) sc_lawgreatright.nd rfl (Or.inr rfl))
 (pss_one (ps_expr (pe_bm PySem.F.plainAttrs_list PySem.F.slot_list_extend PySem.F.type_list_extend mt_extend (pv 7) (pa_cons (pe_lc (own := [("rest", 9)]) (g := gName 9) rfl sc_lawgreatright.nd (pi_range1 (by rfl) B.n_range (pa_cons (pe_op op_add (pe_callB (id := "min") (call_min2 rfl) (by rfl) B.n_min (by decide +kernel) (pa_cons (pe_op op_sub (pv 5) pe_int) (pa_cons (pv 8) pa_nil))) pe_int) pa_nil)) (blkOk_by (own := [("rest", 9)]) (N := ["source", "row", "top", "some", "time", "one", "many", "longer", "run", "rest", "at", "few", "told"]) (sc := defScope s_lawgreatright) (by decide +kernel)) (fun _ _ _ _ _ => (pg_name (i := 9) sc_lawgreatright.nd rfl (Or.inl rfl))) (fun _ _ _ _ _ => pts_nil) (fun _ _ _ _ _ => (pe_op op_sub (pe_op op_mul (pv 8) (pv 5)) (pe_op op_mul (pv 9) (pe_op op_sub (pv 5) pe_int))))) pa_nil)))))
 (pss_one (ps_par3 (i := 1) (j := 2) (l := 3) (by rfl) sc_lawgreatright.nd rfl rfl rfl (by decide) (by decide) (by decide) rfl rfl rfl (pa_cons (pe_op op_cat (pe_lst (pa_cons (pv 5) pa_nil)) (pv 1)) (pa_cons (pe_op op_mul (pv 2) (pv 5)) (pa_cons (pv 7) pa_nil))) (by rfl)))))
 pss_nil)))))
 (pss_cons (ps_set (i := 3) sc_lawgreatright.nd rfl (Or.inl rfl) (pe_callB (id := "sorted") (r := rSortedI K) cr_sortedI (by rfl) B.n_sorted (by decide +kernel) (pa_cons (pv 3) pa_nil)))
 (pss_cons (ps_if (pt_not (pt_val (pe_callD D_lawsame (hr.mono (by omega)) (by rfl) (pa_cons (pe_callD D_listof (hr.mono (by omega)) (by rfl) (pa_cons (pe_revL (pv 3)) pa_nil)) (pa_cons (pv 1) pa_nil)))))
 (pss_one (ps_ret pe_bl))
 pss_nil)
 (pss_cons (ps_set (i := 10) sc_lawgreatright.nd rfl (Or.inl rfl) (pe_callD D_lawdraw (hr.mono (by omega)) (by rfl) (pa_cons (pv 0) (pa_cons (pe_callB (id := "len") (r := rLenK K) call_lenK (by rfl) B.n_len (by decide +kernel) (pa_cons (pv 3) pa_nil)) pa_nil))))
 (pss_cons (ps_for PassesOwn.never rfl (pi_list (pe_lst (pa_cons (pe_op op_cat (pe_slice sl_list (pv 3) po_none (po_some (pv 10))) (pe_slice sl_list (pv 3) (po_some (pe_op op_add (pv 10) pe_int)) po_none)) (pa_cons (pe_op op_cat (pe_op op_cat (pe_slice sl_list (pv 3) po_none (po_some (pv 10))) (pe_lst (pa_cons (pe_op op_add (pe_ix (r := rIxL K) ix_list (pv 3) (pv 10) (fun _ _ => rfl)) pe_int) pa_nil))) (pe_slice sl_list (pv 3) (po_some (pe_op op_add (pv 10) pe_int)) po_none)) pa_nil)))) (pg_name (i := 11) sc_lawgreatright.nd rfl (Or.inl rfl))
 (pss_one (ps_if (PW.pt (pw_and (pt_cmpR op_eq (pe_callB (id := "len") (r := rLenS w) call_lenS (by rfl) B.n_len (by decide +kernel) (pa_cons (pe_callTy (T := "set") (r := rSetL K w) (call_setL rfl) (by rfl) B.n_set (by decide +kernel) (pa_cons (pv 11) pa_nil)) pa_nil)) (pe_callB (id := "len") (r := rLenK K) call_lenK (by rfl) B.n_len (by decide +kernel) (pa_cons (pv 11) pa_nil)) (nomark _)) (pw_and1 (pt_cmpR op_le (pe_callB (id := "max") (r := rMax K) (cr_max rfl) (by rfl) B.n_max (by decide +kernel) (pa_cons (pe_op op_cat (pv 11) (pe_lst (pa_cons pe_int pa_nil))) pa_nil)) (pe_op op_pow pe_int pe_int) (nomark _)))))
 (pss_cons (ps_set (i := 12) sc_lawgreatright.nd rfl (Or.inl rfl) (pe_callD D_listof (hr.mono (by omega)) (by rfl) (pa_cons (pv 11) pa_nil)))
 (pss_cons (ps_if (PW.pt (pw_and (pt_cmpR op_notN (pv 12) pe_non (nomark _)) (pw_and1 (PW.pt (pw_or (pt_cmpR (r := rEqD K) (op_eqD hr.units) (pv 12) (pv 1) (nomark _)) (pw_or1 (pt_cmpR op_ne (pe_callB (id := "len") (r := rLenK K) call_lenK (by rfl) B.n_len (by decide +kernel) (pa_cons (pe_callD D_lawdueruns (hr.mono (by omega)) (by rfl) (pa_cons (pv 12) pa_nil)) pa_nil)) (pe_callB (id := "len") (r := rLenK K) call_lenK (by rfl) B.n_len (by decide +kernel) (pa_cons (pv 11) pa_nil)) (nomark _))))))))
 (pss_one (ps_ret pe_bl))
 pss_nil)
 (pss_one (ps_if (PW.pt (pw_and (pt_cmpR op_notN (pv 12) pe_non (nomark _)) (pw_and1 (pt_cmpR (op_neD hr.units) (pe_callD D_lawdueruns (hr.mono (by omega)) (by rfl) (pa_cons (pv 12) pa_nil)) (pv 11) (nomark _)))))
 (pss_one (ps_ret pe_bl))
 pss_nil))))
 pss_nil)))
 (pss_one (ps_ret pe_bl)))))))), ?_⟩
    have lim : sizeLine = 16777216 := sizeLine_eq
    refine ⟨Nat.zero_le _, fun p0 hp0 => ⟨by show 1 ≤ _; omega, fun q0 hq0 => ⟨_, _, _, rfl, ?_⟩⟩⟩
    have s1 : Same H (upd (upd H p0 (.lst [])) q0 (.lst [.int 1])) := (same_new hp0).trans (same_new hq0)
    have gp1 : (upd (upd H p0 (.lst [])) q0 (.lst [.int 1])) p0 = some (.lst (([] : List Int).map V.int)) := same_new hq0 _ _ upd_same
    have gq1 : (upd (upd H p0 (.lst [])) q0 (.lst [.int 1])) q0 = some (.lst ((allS []).map V.int)) := upd_same
    have npl := S.nel hp0
    have npd := S.ned hp0
    have nql := (S.same (same_new (o := .lst []) hp0)).nel hq0
    have nqd := (S.same (same_new (o := .lst []) hp0)).ned hq0
    have S1 := S.same s1
    generalize upd (upd H p0 (.lst [])) q0 (.lst [.int 1]) = H1 at s1 gp1 gq1 S1 ⊢
    refine ⟨_, rfl, l, d, mix, cnt, 3, rfl, S1, by omega, by omega, by decide, fun zt c2 H2 zt0 zt1 S2 hc2 k2 => ⟨_, _, rfl, rfl, _, rfl, by omega, by omega, ?_⟩⟩
    refine for_range (lo := 0) (n := (1 + zt).toNat) (GrInv H l d mix cnt) ?_ ?_ ?_
    · exact ⟨[], p0, q0, c2, _, _, _, _, _, _, rfl, S2, by omega, (Keep.of s1).trans k2, k2 _ _ gp1 npl npd, k2 _ _ gq1 nql nqd, ⟨npl, npd, nql, nqd⟩, fun k hk => absurd hk List.not_mem_nil, Nat.le_refl _, by decide, by decide⟩
    · rintro i σ H3 hi ⟨row, pr, sm, c3, y4, y5, y6, y7, y8, y9, rfl, S3, hc3, k3, gp, gs, ⟨n1, n2, n3, n4⟩, two, rl, pl, al⟩
      refine ⟨_, rfl, 10, 6, rfl, rfl, ⟨by decide, by decide, by decide⟩, _, 1, rfl, rfl, by show 3 ≤ _; omega, fun t ht => ?_⟩
      have s4 : Same H3 (upd H3 t (.lst [.int 40, .int 1500, .int (10 ^ Int.toNat 6 - 1)])) := same_new ht
      have gt4 : (upd H3 t (.lst [.int 40, .int 1500, .int (10 ^ Int.toNat 6 - 1)])) t = some (.lst [.int 40, .int 1500, .int 999999]) := upd_same
      have tl := S3.nel ht
      have td := S3.ned ht
      have S4 := S3.same s4
      have gp4 := s4 _ _ gp
      have gs4 := s4 _ _ gs
      refine ⟨_, rfl, l, d, mix, c3, 3, rfl, S4, by omega, by omega, by decide, fun zi c5 H5 zi0 zi1 S5 hc5 k5 => ?_⟩
      obtain ⟨wd, hw, hw3⟩ := at3 (a := 40) (b := 1500) (c := 999999) zi0 zi1
      have wb : 1 ≤ wd ∧ wd ≤ 999999 := by rcases hw3 with e | e | e <;> omega
      refine ⟨t, _, zi, .int wd, rfl, rfl, SqL.of (k5 _ _ gt4 tl td), hw, l, d, mix, c5, wd, rfl, S5, by omega, by omega, Nat.lt_of_le_of_lt (m := 1000000) (by omega) (by decide), fun z1 c6 H6 z10 z11 S6 hc6 k6 => ⟨_, _, rfl, rfl, ?_⟩⟩
      have k36 : Keep H3 H6 l d := ((Keep.of s4).trans k5).trans k6
      have gp6 := k36 _ _ gp n1 n2
      have gs6 := k36 _ _ gs n3 n4
      obtain ⟨one, eo⟩ : ∃ one, one = 2 + z1 := ⟨_, rfl⟩
      dsimp only
      rw [← eo]
      have o2 : 2 ≤ one := by omega
      have o3 : one ≤ 1000000 := by omega
      clear eo k5 k6 s4 gt4 S4 S5 gp4 gs4
      have pos := allS_le two
      -- how many there would be
      refine ⟨_, rfl, sm, rfl, ⟨_, SqL.of gs6⟩, fun D hD => lc_list (K := K) (a := sm) (xs := (allS row).map V.int) (fun j H' => Same H6 (wo H' D) ∧ H' D = some (.lst ((((allS row).take j).map fun m => ((manyOne one m : Nat) : Int)).map V.int))) ⟨by rw [wo_upd]; exact same_wo (Same.refl _) hD, upd_same⟩ (fun j H' _ h => SqL.of (wo_same _ _ (h.1 _ _ gs6))) ?_ ?_⟩
      · rintro j v H7 hv ⟨s7, g7⟩
        obtain ⟨m, em, rfl⟩ := map_at hv
        have mb := pos m (List.mem_of_getElem? em)
        refine ⟨rfl, ?_⟩
        refine ⟨_, rfl, _, 1, rfl, rfl, _, rfl, one - 1, m, rfl, _, 1, rfl, rfl, _, g7, ?_, ?_, ?_⟩
        · rw [List.length_map, List.length_map]
          have := List.length_take_le j (allS row)
          have := (List.getElem?_eq_some_iff.mp em).1
          rw [List.length_take]
          omega
        · rw [wo_upd]
          exact s7
        · rw [upd_same, List.take_add_one, em, List.map_append, List.map_append]
          dsimp only
          rw [many_if o2 mb.1]
          rfl
      rintro H7 ⟨s7, g7⟩
      rw [List.length_map, List.take_length] at g7
      have s67 := s7.trans (wo_same (H := H7) (D := D))
      have gp7 := s67 _ _ gp6
      have gs7 := s67 _ _ gs6
      have S7 := S6.same s67
      have k37 : Keep H3 H7 l d := k36.trans (Keep.of s67)
      refine ⟨D, _, rfl, SqL.of g7, ?_⟩
      rw [sum_cast]
      have pp := pro_pos two
      refine ⟨_, rfl, _, rfl, pro row, one, rfl, rfl, .inl ⟨by omega, by omega⟩, 10, 6, rfl, rfl, ⟨by decide, by decide, by decide⟩, _, _, rfl, rfl, _, rfl, ?_⟩
      have stay : ∀ y5 y6 y7 y8 y9, GrInv H l d mix cnt (i + 1) [some (.ref l), some (.ref pr), some (.int (pro row)), some (.ref sm), some (.int (0 + (i : Int))), y5, y6, y7, y8, y9, none, none, none] H7 := fun y5 y6 y7 y8 y9 =>
        ⟨row, pr, sm, c6, _, _, _, _, _, _, rfl, S7, by omega, k3.trans k37, gp7, gs7, ⟨n1, n2, n3, n4⟩, two, by omega, pl, al⟩
      refine ite2 (fun cA => ?_) (fun _ => ite2 (fun z => Bool.noConfusion z) (fun _ => stay _ _ _ _ _))
      have cA : pro row * one ≤ 1000000 := of_decide_eq_true cA
      refine ⟨_, rfl, _, _, rfl, rfl, _, rfl, ite2 (fun cB => ?_) (fun _ => stay _ _ _ _ _)⟩
      have cB := of_decide_eq_true cB
      have len1 : (backAll one (allS row)).length ≤ 2000 := by rw [backAll_len]; omega
      refine ⟨Nat.zero_le _, fun lg hlg => ?_⟩
      have s8 : Same H7 (upd H7 lg (.lst [])) := same_new hlg
      have gl8 : (upd H7 lg (.lst [])) lg = some (.lst ((backAll one ((allS row).take 0)).map V.int)) := by rw [upd_same]; rfl
      have ll := S7.nel hlg
      have ld := S7.ned hlg
      generalize upd H7 lg (.lst []) = H8 at s8 gl8 ⊢
      refine ⟨_, rfl, sm, rfl, ⟨_, SqL.of (s8 _ _ gs7)⟩, for_list (K := K) (a := sm) (xs := (allS row).map V.int) (fun j σ H'' => ∃ y8 y9, σ = [some (.ref l), some (.ref pr), some (.int (pro row)), some (.ref sm), some (.int (0 + (i : Int))), some (.int one), some (.int (((allS row).map (manyOne one)).sum : Nat)), some (.ref lg), y8, y9, none, none, none] ∧ Same H7 (wo H'' lg) ∧ H'' lg = some (.lst ((backAll one ((allS row).take j)).map V.int))) ?_ ?_ ?_ ?_⟩
      · exact ⟨_, _, rfl, same_wo s8 hlg, gl8⟩
      · rintro j σ H5 hj ⟨y8, y9, rfl, s5, g5⟩
        exact SqL.of ((s5.trans wo_same) _ _ gs7)
      · rintro j v σ H5 hv2 ⟨y8, y9, rfl, s5, g5⟩
        obtain ⟨m, em, rfl⟩ := map_at hv2
        have mb := pos m (List.mem_of_getElem? em)
        have mi := many_if o2 mb.1
        have part := backAll_part one (allS row) (j + 1)
        rw [backAll_step em, List.length_append] at part
        have lb : (backOne one m).length = manyOne one m := by rw [← backJ_all, backJ_len]
        refine ⟨_, rfl, .inl ⟨rfl, _, SqL.of g5⟩, _, rfl, _, 1, rfl, rfl, _, rfl, one - 1, m, rfl, _, 1, rfl, rfl, _, rfl, ?_⟩
        dsimp only
        rw [mi]
        refine ⟨by omega, by omega, fun D hD => lc_range (lo := 0) (n := ((manyOne one m : Nat) : Int).toNat) (fun r H'' => Same H5 (wo H'' D) ∧ H'' D = some (.lst ((backJ one m r).map V.int))) ⟨by rw [wo_upd]; exact same_wo (Same.refl _) hD, upd_same⟩ ?_ ?_⟩
        · rintro r H6 hr6 ⟨s6, g6⟩
          rw [Int.toNat_natCast] at hr6
          have rb : (r : Int) ≤ 2000 := by omega
          refine ⟨rfl, ?_⟩
          refine ⟨_, rfl, _, rfl, m, one, rfl, rfl, .inl ⟨by omega, by omega⟩, _, rfl, _, rfl, one, 1, rfl, rfl, 0 + (r : Int), one - 1, rfl, rfl, .inl ⟨by omega, by omega⟩, _, _, rfl, rfl, _, g6, ?_, ?_, ?_⟩
          · rw [List.length_map, backJ_len]
            omega
          · rw [wo_upd]
            exact s6
          · rw [upd_same, backJ_succ, List.map_append]
            dsimp only
            rw [Int.zero_add, back_elt]
            rfl
        · rintro H6 ⟨s6, g6⟩
          rw [Int.toNat_natCast, backJ_all] at g6
          have s56 := s6.trans (wo_same (H := H6) (D := D))
          refine ⟨lg, D, _, _, rfl, rfl, s56 _ _ g5, g6, by rw [List.length_map, List.length_map]; omega, _, _, rfl, ?_, ?_⟩
          · rw [wo_upd]
            exact grown2 hlg s5 s56
          · rw [upd_same, backAll_step em, List.map_append]
      · rintro σ H5 ⟨y8, y9, rfl, s5, g5⟩
        rw [List.length_map, List.take_length] at g5
        have s75 := s5.trans (wo_same (H := H5) (D := lg))
        have gp5 := s75 _ _ gp7
        have S5 := S7.same s75
        refine ⟨_, rfl, by show 1 ≤ _; omega, fun o1 ho1 => ⟨_, rfl, o1, pr, _, _, rfl, rfl, upd_same, same_new ho1 _ _ gp5, by rw [List.length_map]; show 1 + _ ≤ _; omega, fun np hnp => ⟨_, rfl, _, rfl, pro row, one, rfl, rfl, .inl ⟨by omega, by omega⟩, _, rfl, _, _, _, rfl, ?_⟩⟩⟩
        have s5n : Same H5 (upd (upd H5 o1 (.lst [.int one])) np (.lst ([.int one] ++ row.map V.int))) := (same_new ho1).trans (same_new hnp)
        have epro : pro row * one = pro (one :: row) := by rw [pro_cons, Int.mul_comm]
        dsimp only
        rw [epro]
        refine ⟨one :: row, np, lg, c6, _, _, _, _, _, _, rfl, S5.same s5n, by omega, (k3.trans k37).trans (Keep.of (s75.trans s5n)), upd_same, s5n _ _ g5, ⟨(S5.same (same_new (o := .lst [.int one]) ho1)).nel hnp, (S5.same (same_new (o := .lst [.int one]) ho1)).ned hnp, ll, ld⟩, fun k hk => ?_, by rw [List.length_cons]; omega, ?_, len1⟩
        · rcases List.mem_cons.mp hk with rfl | hk
          · exact o2
          · exact two k hk
        · rw [pro_cons, Int.mul_comm]
          exact cA
    · rintro σ H3 ⟨row, pr, sm, c3, y4, y5, y6, y7, y8, y9, rfl, S3, hc3, k3, gp, gs, ⟨n1, n2, n3, n4⟩, two, rl, pl, al⟩
      obtain ⟨R0, _, nd0⟩ := allS_all two
      refine ⟨_, rfl, sm, _, rfl, SqL.of gs, fun ps sp pm up hsp => ?_⟩
      have s4 : Same H3 (upd H3 sp (.lst (ps.map V.int))) := same_new hsp
      have gs4 : (upd H3 sp (.lst (ps.map V.int))) sp = some (.lst (ps.map V.int)) := upd_same
      have sl := S3.nel hsp
      have sd := S3.ned hsp
      have gp4 := s4 _ _ gp
      have S4 := S3.same s4
      generalize upd H3 sp (.lst (ps.map V.int)) = H4 at s4 gs4 gp4 S4 ⊢
      have R : Right ps row := (right_cong fun n => pm.mem_iff).mpr R0
      have nd : ps.Nodup := pm.nodup_iff.mpr nd0
      have lps := pm.length_eq
      have bps : ∀ n ∈ ps, 1 ≤ n ∧ n ≤ 1000000 := fun n hn => by
        have := allS_le two n (pm.mem_iff.mp hn)
        omega
      refine ⟨_, rfl, sp, _, rfl, SqL.of gs4, fun rv hrv => ?_⟩
      have s5 := same_new (o := .lst (ps.map V.int).reverse) hrv
      have gr5 : (upd H4 rv (.lst (ps.map V.int).reverse)) rv = some (.lst (ps.reverse.map V.int)) := by rw [upd_same, List.map_reverse]
      generalize upd H4 rv (.lst (ps.map V.int).reverse) = H5 at s5 gr5 ⊢
      have Rr : Right ps.reverse row := (right_cong fun n => List.mem_reverse).mpr R
      refine ⟨rv, ps.reverse, rfl, SqL.of gr5, (List.reverse_perm ps).nodup_iff.mpr nd, by rw [List.length_reverse]; omega, fun n hn => ?_, fun no => absurd Rr (no row), fun row2 R2 p6 H6 hp6 s6 g6 => ?_⟩
      · have := bps n (List.mem_reverse.mp hn)
        omega
      obtain rfl := right_uniq R2 Rr
      have s46 := s5.trans s6
      refine ⟨_, rfl, .ref p6, .ref pr, .list (row2.map PyData.int), rfl, .lst (SqL.of g6) (dp_ints _), .lst (SqL.of (s46 _ _ gp4)) (dp_ints _), ld_list (by omega), dep_list _, fun H7 s7 => ⟨_, rfl, iteF ?_⟩⟩
      have s47 := s46.trans s7
      have gs7 := s47 _ _ gs4
      have S7 := S4.same s47
      have k37 : Keep H H7 l d := (k3.trans (Keep.of s4)).trans (Keep.of s47)
      have ne : 0 < ps.length := List.length_pos_of_mem ((R.2 _ (single_top two).1).mpr (single_top two))
      clear s46 s7 g6 s6 gr5 gs4 S4 s4 S3
      refine ⟨_, rfl, _, rfl, sp, _, rfl, .inl (SqL.of gs7), ?_⟩
      rw [List.length_map]
      refine ⟨l, d, mix, c3, _, rfl, S7, by omega, by omega, Nat.lt_of_le_of_lt (m := 2000) (by omega) (by decide), fun za c8 H8 za0 za1 S8 hc8 k8 => ?_⟩
      obtain ⟨at', rfl⟩ : ∃ at' : Nat, za = (at' : Int) := ⟨za.toNat, by omega⟩
      have la : at' < ps.length := by omega
      have la1 : at' ≤ (ps.map V.int).length := by rw [List.length_map]; omega
      have la2 : at' + 1 ≤ (ps.map V.int).length := by rw [List.length_map]; omega
      have gs8 := k8 _ _ gs7 sl sd
      have k38 := k37.trans k8
      obtain ⟨x, ex⟩ : ∃ x, ps[at']? = some x := ⟨_, List.getElem?_eq_getElem la⟩
      have atx : atI (ps.map V.int) (at' : Int) = some (.int x) := by
        exact at_of (j := at') (by omega) (by rw [List.getElem?_map, ex]; rfl)
      have et1 : cutV (ps.map V.int) none (some (at' : Int)) = (ps.take at').map V.int := by rw [cut_take _ _ la1, List.map_take]
      have et2 : cutV (ps.map V.int) (some ((at' : Int) + 1)) none = (ps.drop (at' + 1)).map V.int := by rw [show (at' : Int) + 1 = ((at' + 1 : Nat) : Int) from rfl, cut_drop _ _ la2, List.map_drop]
      have t1 : (ps.take at').length ≤ 2000 := by rw [List.length_take]; omega
      have t2 : (ps.drop (at' + 1)).length ≤ 2000 := by rw [List.length_drop]; omega
      refine ⟨_, rfl, _, rfl, _, rfl, sp, _, rfl, SqL.of gs8, fun a1 ha1 => ?_⟩
      rw [et1]
      have u1 := same_new (o := .lst ((ps.take at').map V.int)) ha1
      have w1 : (upd H8 a1 (.lst ((ps.take at').map V.int))) a1 = some (.lst ((ps.take at').map V.int)) := upd_same
      generalize upd H8 a1 (.lst ((ps.take at').map V.int)) = G1 at u1 w1 ⊢
      refine ⟨_, rfl, _, rfl, _, 1, rfl, rfl, _, rfl, noPart ⟨sp, _, rfl, SqL.of (u1 _ _ gs8), fun a2 ha2 => ?_⟩⟩
      rw [et2]
      have u2 := same_new (o := .lst ((ps.drop (at' + 1)).map V.int)) ha2
      have w2 : (upd G1 a2 (.lst ((ps.drop (at' + 1)).map V.int))) a2 = some (.lst ((ps.drop (at' + 1)).map V.int)) := upd_same
      generalize upd G1 a2 (.lst ((ps.drop (at' + 1)).map V.int)) = G2 at u2 w2 ⊢
      refine ⟨a1, a2, _, _, rfl, rfl, u2 _ _ w1, w2, by rw [List.length_map, List.length_map]; omega, fun a3 ha3 => ?_⟩
      rw [← List.map_append]
      have u3 := same_new (o := .lst ((ps.take at' ++ ps.drop (at' + 1)).map V.int)) ha3
      have w3 : (upd G2 a3 (.lst ((ps.take at' ++ ps.drop (at' + 1)).map V.int))) a3 = some (.lst ((ps.take at' ++ ps.drop (at' + 1)).map V.int)) := upd_same
      have z3 := (u1.trans u2).trans u3
      generalize upd G2 a3 (.lst ((ps.take at' ++ ps.drop (at' + 1)).map V.int)) = G3 at u3 w3 z3 ⊢
      clear u1 u2 u3 w1 w2 ha1 ha2
      refine ⟨_, rfl, _, rfl, _, rfl, sp, _, rfl, SqL.of (z3 _ _ gs8), fun b1 hb1 => ?_⟩
      rw [et1]
      have u1 := same_new (o := .lst ((ps.take at').map V.int)) hb1
      have w1 : (upd G3 b1 (.lst ((ps.take at').map V.int))) b1 = some (.lst ((ps.take at').map V.int)) := upd_same
      generalize upd G3 b1 (.lst ((ps.take at').map V.int)) = G4 at u1 w1 ⊢
      refine ⟨_, rfl, _, rfl, sp, _, (at' : Int), .int x, rfl, rfl, SqL.of (u1 _ _ (z3 _ _ gs8)), atx, _, 1, rfl, rfl, by show 1 ≤ _; omega, fun b2 hb2 => ?_⟩
      have u2 := same_new (o := .lst [.int (x + 1)]) hb2
      refine ⟨b1, b2, _, _, rfl, rfl, u2 _ _ w1, upd_same, by rw [List.length_map]; show _ + 1 ≤ _; omega, fun b3 hb3 => ?_⟩
      have e3 : (ps.take at').map V.int ++ [V.int (x + 1)] = (ps.take at' ++ [x + 1]).map V.int := by rw [List.map_append]; rfl
      rw [show (fun i j => V.int (i + j)) x 1 = V.int (x + 1) from rfl] at hb3 ⊢
      rw [e3]
      have u3 := same_new (o := .lst ((ps.take at' ++ [x + 1]).map V.int)) hb3
      have w3' : (upd (upd G4 b2 (.lst [.int (x + 1)])) b3 (.lst ((ps.take at' ++ [x + 1]).map V.int))) b3 = some (.lst ((ps.take at' ++ [x + 1]).map V.int)) := upd_same
      have z4 := (u1.trans u2).trans u3
      generalize upd (upd G4 b2 (.lst [.int (x + 1)])) b3 (.lst ((ps.take at' ++ [x + 1]).map V.int)) = G5 at w3' z4 ⊢
      clear u1 u2 u3 w1
      refine ⟨_, rfl, _, rfl, _, 1, rfl, rfl, _, rfl, noPart ⟨sp, _, rfl, SqL.of (z4 _ _ (z3 _ _ gs8)), fun b4 hb4 => ?_⟩⟩
      rw [et2]
      have u4 := same_new (o := .lst ((ps.drop (at' + 1)).map V.int)) hb4
      refine ⟨b3, b4, _, _, rfl, rfl, u4 _ _ w3', upd_same, by rw [List.length_map, List.length_map, List.length_append]; show _ + 1 + _ ≤ _; omega, fun b5 hb5 => ?_⟩
      rw [← List.map_append]
      have u5 := same_new (o := .lst ((ps.take at' ++ [x + 1] ++ ps.drop (at' + 1)).map V.int)) hb5
      have w5 : (upd (upd G5 b4 (.lst ((ps.drop (at' + 1)).map V.int))) b5 (.lst ((ps.take at' ++ [x + 1] ++ ps.drop (at' + 1)).map V.int))) b5 = some (.lst ((ps.take at' ++ [x + 1] ++ ps.drop (at' + 1)).map V.int)) := upd_same
      have z5 := (z4.trans u4).trans u5
      have w3 := z5 _ _ w3
      generalize upd (upd G5 b4 (.lst ((ps.drop (at' + 1)).map V.int))) b5 (.lst ((ps.take at' ++ [x + 1] ++ ps.drop (at' + 1)).map V.int)) = G6 at w5 z5 w3 ⊢
      refine ⟨by show 2 ≤ _; omega, fun fl hfl => ?_⟩
      have u6 := same_new (o := .lst [.ref a3, .ref b5]) hfl
      have gf : (upd G6 fl (.lst [.ref a3, .ref b5])) fl = some (.lst [.ref a3, .ref b5]) := upd_same
      have w3 := u6 _ _ w3
      have w5 := u6 _ _ w5
      have z6 := (z3.trans z5).trans u6
      generalize upd G6 fl (.lst [.ref a3, .ref b5]) = H9 at gf w3 w5 z6 ⊢
      clear z3 z4 z5 u4 u5 u6 w3' hb1 hb2 hb3 hb4 hb5 ha3 hfl
      have S9 := S8.same z6
      have k39 := k38.trans (Keep.of z6)
      -- neither of the two is the list's
      have up' := asc_of pm up nd0
      have split := List.take_append_drop at' ps
      rw [List.drop_eq_getElem_cons la] at split
      have exx : ps[at'] = x := by
        have := List.getElem?_eq_getElem la
        rw [ex] at this
        exact (Option.some.inj this).symm
      rw [exx] at split
      have upS : (ps.take at' ++ x :: ps.drop (at' + 1)).Pairwise (· < ·) := by rw [split]; exact up'
      obtain ⟨up1, up2, up3⟩ := List.pairwise_append.mp upS
      obtain ⟨up4, up5⟩ := List.pairwise_cons.mp up2
      have memt : ∀ n ∈ ps.take at', n < x := fun n hn => up3 n hn x List.mem_cons_self
      have memd : ∀ n ∈ ps.drop (at' + 1), x < n := up4
      have mx : x ∈ ps := List.mem_of_getElem? ex
      have bx := bps x mx
      have goodA : Few ps x (ps.take at' ++ ps.drop (at' + 1)) := by
        refine ⟨by rw [List.length_append, List.length_take, List.length_drop]; omega, fun n hn => ?_, ?_, fun hx => ?_⟩
        · rcases List.mem_append.mp hn with h | h
          · have := bps n (List.mem_of_mem_take h); omega
          · have := bps n (List.mem_of_mem_drop h); omega
        · exact List.pairwise_append.mpr ⟨up1.imp fun h => Int.le_of_lt h, up5.imp fun h => Int.le_of_lt h, fun a ha b hb => Int.le_of_lt (Int.lt_trans (memt a ha) (memd b hb))⟩
        · rcases List.mem_append.mp hx with h | h
          · exact absurd (memt x h) (Int.lt_irrefl _)
          · exact absurd (memd x h) (Int.lt_irrefl _)
      have goodB : Few ps x (ps.take at' ++ [x + 1] ++ ps.drop (at' + 1)) := by
        refine ⟨by rw [List.length_append, List.length_append, List.length_take, List.length_drop]; show _ + 1 + _ ≤ _; omega, fun n hn => ?_, ?_, fun hx => ?_⟩
        · rcases List.mem_append.mp hn with h | h
          · rcases List.mem_append.mp h with h | h
            · have := bps n (List.mem_of_mem_take h); omega
            · have := List.mem_singleton.mp h; omega
          · have := bps n (List.mem_of_mem_drop h); omega
        · refine List.pairwise_append.mpr ⟨List.pairwise_append.mpr ⟨up1.imp fun h => Int.le_of_lt h, List.pairwise_singleton _ _, fun a ha b hb => ?_⟩, up5.imp fun h => Int.le_of_lt h, fun a ha b hb => ?_⟩
          · have := memt a ha
            have := List.mem_singleton.mp hb
            omega
          · have hb' := memd b hb
            rcases List.mem_append.mp ha with h | h
            · have := memt a h
              omega
            · have := List.mem_singleton.mp h
              omega
        · rcases List.mem_append.mp hx with h | h
          · rcases List.mem_append.mp h with h | h
            · exact absurd (memt x h) (Int.lt_irrefl _)
            · have := List.mem_singleton.mp h
              omega
          · exact absurd (memd x h) (Int.lt_irrefl _)
      have gp9 : H9 pr = some (.lst (row2.map V.int)) := z6 _ _ (k8 _ _ (s47 _ _ gp4) n1 n2)
      refine ⟨fl, rfl, ⟨_, SqL.of gf⟩, for_list (K := K) (a := fl) (xs := [.ref a3, .ref b5]) (fun j σ H' => ∃ y11 y12, σ = [some (.ref l), some (.ref pr), some (.int (pro row2)), some (.ref sp), y4, y5, y6, y7, y8, y9, some (.int (at' : Int)), y11, y12] ∧ Same H9 H') ⟨_, _, rfl, Same.refl _⟩ ?_ ?_ ?_⟩
      · rintro j σ H' hj ⟨y11, y12, rfl, s'⟩
        exact SqL.of (s' _ _ gf)
      · rintro j v σ H' hv ⟨y11, y12, rfl, s'⟩
        obtain ⟨zp, zs, ev, gz, good⟩ : ∃ zp zs, v = .ref zp ∧ H9 zp = some (.lst (zs.map V.int)) ∧ Few ps x zs := by
          match j, hv with
          | 0, hv => exact ⟨a3, _, (Option.some.inj hv).symm, w3, goodA⟩
          | 1, hv => exact ⟨b5, _, (Option.some.inj hv).symm, w5, goodB⟩
        subst ev
        clear goodA goodB w3 w5
        have len := good.len
        have gz' := s' _ _ gz
        refine ⟨_, rfl, zp, zs, rfl, SqL.of gz', by omega, fun st m hst lm iff' => ?_⟩
        have u1 := same_new (o := SetO w st (fun j => decide (j ∈ zs)) m) hst
        refine ⟨st, _, m, rfl, upd_same, by omega, _, rfl, zp, _, rfl, .inl (SqL.of (u1 _ _ gz')), rfl, _, rfl, ?_⟩
        have s1' := s'.trans u1
        have gz1 := u1 _ _ gz'
        have gp1 := s1' _ _ gp9
        generalize upd H' st (SetO w st (fun j => decide (j ∈ zs)) m) = J1 at s1' gz1 gp1 ⊢
        dsimp only
        rw [List.length_map]
        refine ite2 (fun cA => ?_) (fun _ => ite2 (fun z => Bool.noConfusion z) (fun _ => ⟨_, _, rfl, s1'⟩))
        have nz : zs.Nodup := iff'.mp (by
          have := of_decide_eq_true cA
          injection this with this
          omega)
        refine ⟨_, rfl, by show 1 ≤ _; omega, fun o1 ho1 => ?_⟩
        have u2 := same_new (o := .lst [.int 0]) ho1
        refine ⟨zp, o1, _, _, rfl, rfl, u2 _ _ gz1, upd_same, by rw [List.length_map]; show _ + 1 ≤ _; omega, fun o2 ho2 => ?_⟩
        have eo : zs.map V.int ++ [V.int 0] = (zs ++ [0]).map V.int := by rw [List.map_append]; rfl
        rw [eo]
        have u3 := same_new (o := .lst ((zs ++ [0]).map V.int)) ho2
        have g3 : (upd (upd J1 o1 (.lst [.int 0])) o2 (.lst ((zs ++ [0]).map V.int))) o2 = some (.lst ((zs ++ [0]).map V.int)) := upd_same
        have s3' := (s1'.trans u2).trans u3
        have gz3 := u3 _ _ (u2 _ _ gz1)
        have gp3 := u3 _ _ (u2 _ _ gp1)
        generalize upd (upd J1 o1 (.lst [.int 0])) o2 (.lst ((zs ++ [0]).map V.int)) = J3 at g3 s3' gz3 gp3 ⊢
        refine ⟨o2, zs ++ [0], rfl, SqL.of g3, by rw [List.length_append]; exact Nat.succ_pos _, fun mm hm1 hm2 => ⟨10, 6, rfl, rfl, ⟨by decide, by decide, by decide⟩, _, _, rfl, rfl, _, rfl, ?_⟩⟩
        refine ite2 (fun cB => ?_) (fun _ => ⟨_, _, rfl, s3'⟩)
        have cB : mm ≤ 1000000 := of_decide_eq_true cB
        have zb : ∀ n ∈ zs, 1 ≤ n ∧ n ≤ 1000000 := fun n hn => ⟨(good.bd n hn).1, Int.le_trans (hm2 n (List.mem_append_left _ hn)) cB⟩
        refine ⟨_, rfl, zp, zs, rfl, SqL.of gz3, nz, by omega, fun n hn => by have := zb n hn; omega, fun _ J4 s4 => ?_, fun row3 R3 p3 J4 hp3 s4 g4 => ?_⟩
        · refine ⟨_, rfl, rfl, _, rfl, ?_⟩
          dsimp only
          rw [decide_eq_true (rfl : V.non = V.non)]
          refine ⟨_, rfl, rfl, _, rfl, ?_⟩
          dsimp only
          rw [decide_eq_true (rfl : V.non = V.non)]
          exact ⟨_, _, rfl, s3'.trans s4⟩
        · have z1 : ∀ n ∈ zs, 1 ≤ n := fun n hn => (zb n hn).1
          have nR : row3 ≠ row2 := fun e => by
            subst e
            exact good.no ((R3.2 x bx.1).mpr ((R.2 x bx.1).mp mx))
          obtain ⟨R5, pos5, nd5⟩ := allS_all R3.1
          have same5 : ∀ n, n ∈ allS row3 ↔ n ∈ zs := fun n =>
            ⟨fun hn => (R3.2 n (pos5 n hn)).mpr ((R5.2 n (pos5 n hn)).mp hn), fun hn => (R5.2 n (z1 n hn)).mpr ((R3.2 n (z1 n hn)).mp hn)⟩
          have len5 : (allS row3).length = zs.length := Nat.le_antisymm (len_le_of nd5 fun n hn => (same5 n).mp hn) (len_le_of nz fun n hn => (same5 n).mpr hn)
          have pro5 : pro row3 ≤ 1000000 := (zb _ ((same5 _).mp ((R5.2 _ (single_top R3.1).1).mpr (single_top R3.1)))).2
          have gz4 := s4 _ _ gz3
          have gp4' := s4 _ _ gp3
          refine ⟨_, rfl, rfl, _, rfl, ?_⟩
          dsimp only
          rw [decide_eq_false (show ¬ V.ref p3 = V.non from fun z => by cases z)]
          refine ⟨_, rfl, _, rfl, _, _, .lst (SqL.of g4) (dp_ints row3), .lst (SqL.of gp4') (dp_ints row2), shaped_ints _, shaped_ints _, _, rfl, ?_⟩
          rw [eqv_ints, decide_eq_false nR]
          refine ⟨_, rfl, p3, row3, rfl, SqL.of g4, R3.1, pro5, by omega, fun p5 ps5 J5 s5' g5 pm5 up5 => ?_⟩
          refine ⟨p5, _, rfl, .inl (SqL.of g5), _, rfl, zp, _, rfl, .inl (SqL.of (s5' _ _ gz4)), rfl, _, rfl, ?_⟩
          rw [List.length_map, List.length_map, pm5.length_eq, len5]
          dsimp only
          rw [decide_eq_true (rfl : V.int (zs.length : Int) = V.int (zs.length : Int))]
          refine ⟨_, rfl, rfl, _, rfl, ?_⟩
          dsimp only
          rw [decide_eq_false (show ¬ V.ref p3 = V.non from fun z => by cases z)]
          refine ⟨_, rfl, p3, row3, rfl, SqL.of (s5' _ _ g4), R3.1, pro5, by omega, fun p6 ps6 J6 s6' g6' pm6 up6 => ?_⟩
          have e6 : ps6 = zs := asc_eq (asc_of pm6 up6 nd5) ((good.up.and nz).imp fun {a b} h => Int.lt_iff_le_and_ne.mpr h) fun n => by rw [pm6.mem_iff]; exact same5 n
          subst e6
          refine ⟨_, rfl, _, _, .lst (SqL.of g6') (dp_ints _), .lst (SqL.of (s6' _ _ (s5' _ _ gz4))) (dp_ints _), shaped_ints _, shaped_ints _, _, rfl, ?_⟩
          rw [eqv_ints, decide_eq_true rfl]
          exact ⟨_, _, rfl, ((s3'.trans s4).trans s5').trans s6'⟩
      · rintro σ H' ⟨y11, y12, rfl, s'⟩
        exact q c8 H' (S9.same s') (by omega) (k39.trans (Keep.of s'))
end
end Sq

set_option Elab.async false
set_option linter.all false
set_option maxRecDepth 100000
set_option maxHeartbeats 8000000
set_option exponentiation.threshold 2000
namespace Sq
open PySem PySem.Spec PyProof.Rows L2
theorem kb_listof {K : PySem.W.Frag} {f : Addr} {fd : FuncData} (F : Fun K "list_of" "list_of" s_listof f fd) : KBn K fd ["singles"] 0 ["singles"] (fun _ ws => ws) (fun _ zs => zs) :=
  kbn_mk F _ _ _ (fun _ h => h) fun _ _ _ _ _ _ ws hl => match ws, hl with | [_], _ => rfl
theorem at2x {a b z : Int} (h0 : 0 ≤ z) (h : z < 2) : ∃ k, atI [V.int a, V.int b] z = some (.int k) ∧ (k = a ∨ k = b) := by
  have : z = 0 ∨ z = 1 := by omega
  rcases this with rfl | rfl
  · exact ⟨a, rfl, .inl rfl⟩
  · exact ⟨b, rfl, .inr rfl⟩
theorem pro_snoc (ks : List Int) (k : Int) : pro (ks ++ [k]) = pro ks * k := by
  unfold pro
  rw [List.foldl_append]
  rfl
theorem right_twos : ∀ (j : Nat) (n : Int), 1 ≤ n → (Single (List.replicate j 2) n ↔ n ≤ 2 ^ j)
  | 0, n, h => by
    constructor
    · intro s
      have e : n = 1 := s.2
      rw [e]
      decide
    · intro l
      have : n = 1 := by
        have e : (2 : Int) ^ 0 = 1 := rfl
        omega
      exact ⟨h, this⟩
  | j + 1, n, h => by
    rw [List.replicate_succ, single_step (by decide) h, right_twos j _ (once_pos (by decide) h), Int.pow_succ]
    unfold once
    omega
def tens : List Int := (List.range 1024).map fun i : Nat => 1 + (i : Int)
theorem right_tens : Right tens (List.replicate 10 2) := by
  refine ⟨fun k hk => by rw [(List.mem_replicate.mp hk).2]; decide, fun n h => ?_⟩
  rw [right_twos 10 n h]
  unfold tens
  rw [List.mem_map]
  have e : (2 : Int) ^ 10 = 1024 := by decide
  rw [e]
  constructor
  · rintro ⟨i, hi, rfl⟩
    have := List.mem_range.mp hi
    omega
  · intro l
    exact ⟨(n - 1).toNat, List.mem_range.mpr (by omega), by omega⟩
theorem tens_facts : tens.Nodup ∧ tens.length = 1024 ∧ (∀ n ∈ tens, 1 ≤ n ∧ n < 1073741824) := by
  refine ⟨?_, ?_, fun n hn => ?_⟩
  · unfold tens
    refine List.Pairwise.map _ (fun (r s : Nat) h => ?_) List.nodup_range
    intro z
    exact h (by omega)
  · unfold tens
    rw [List.length_map, List.length_range]
  · unfold tens at hn
    obtain ⟨i, hi, rfl⟩ := List.mem_map.mp hn
    have := List.mem_range.mp hi
    omega
theorem right_fix {S row : List Int} (h : ∀ k ∈ row, 2 ≤ k) (e : S.Perm (allS row)) : Right S row := (right_cong fun n => e.mem_iff).mpr (allS_all h).1
theorem right_two : Right [1000000, 2, 999999, 1] [2, 500000] := right_fix (by decide) (by decide +kernel)
theorem right_one1 : Right [1000, 1] [1000] := right_fix (by decide) (by decide +kernel)
theorem right_big : Right [2, 1, 500001, 500000, 1000000] [500000, 2] := right_fix (by decide) (by decide +kernel)
theorem right_32 : Right [1, 2, 3, 4, 6] [3, 2] := right_fix (by decide) (by decide +kernel)
theorem right_3 : Right [3, 1] [3] := right_fix (by decide) (by decide +kernel)
theorem len_pro : ∀ {ks : List Int}, (∀ k ∈ ks, 2 ≤ k) → (ks.length : Int) < pro ks
  | [], _ => by decide
  | k :: ks, h => by
    have k2 := h k List.mem_cons_self
    have ih := len_pro (ks := ks) fun x hx => h x (List.mem_cons_of_mem _ hx)
    rw [pro_cons, List.length_cons]
    have := Int.mul_le_mul_of_nonneg_right k2 (show 0 ≤ pro ks by omega)
    omega
theorem gd_int20 {i : Int} (h : i.natAbs < 2 ^ 19) : Gd 20 (.int i) := by
  have lg : i.natAbs.log2 < 19 := PySem.Flt.log2_lt_of (by decide) h
  refine ⟨decide_eq_true (Nat.lt_trans lg (by decide)), rfl, Nat.zero_le _, ?_, ?_⟩
  · have e := int_text_length_le10 (k := 31) (by decide) (show i.natAbs < 10 ^ 31 from Nat.lt_trans h (by decide))
    refine decide_eq_true ?_
    show (Str.ofString (toString i)).length ≤ 40
    rw [PySem.ofString_length]
    omega
  · show (if i == 0 then 0 else i.natAbs.log2 + 1) ≤ 20
    split <;> omega
theorem gda_ints20 : ∀ (ks : List Int), (∀ k ∈ ks, k.natAbs < 2 ^ 19) → GdA (21 * ks.length) (ks.map PyData.int) ∧ PyData.depthAll (ks.map PyData.int) ≤ 0
  | [], _ => ⟨GdA.nil, Nat.le_refl _⟩
  | k :: ks, h => by
    obtain ⟨a, b⟩ := gda_ints20 ks fun x hx => h x (List.mem_cons_of_mem _ hx)
    refine ⟨?_, Nat.max_le.mpr ⟨Nat.zero_le _, b⟩⟩
    have c := GdA.cons (gd_int20 (h k List.mem_cons_self)) (Nat.zero_le _) a
    rw [List.length_cons, Nat.mul_add, Nat.mul_one, Nat.add_comm (21 * ks.length)]
    exact c
theorem dep2 (xs ys : List Int) : (PyData.list [.list (xs.map PyData.int), .list (ys.map PyData.int)]).depth < 4 := by
  have a := deep_ints xs
  have b := deep_ints ys
  show max (PyData.depthAll (xs.map PyData.int) + 1) (max (PyData.depthAll (ys.map PyData.int) + 1) 0) + 1 < 4
  omega
theorem ld2 {xs ys : List Int} (h : xs.length ≤ 1000) (g : ys.length ≤ 1000) : ld (.list [.list (xs.map PyData.int), .list (ys.map PyData.int)]) = true := by
  show (decide (2 ≤ 1000) && (ld (.list (xs.map PyData.int)) && (ld (.list (ys.map PyData.int)) && true))) = true
  rw [ld_list h, ld_list g]
  rfl
theorem ld4 {a b c d : List Int} (h1 : a.length ≤ 1000) (h2 : b.length ≤ 1000) (h3 : c.length ≤ 1000) (h4 : d.length ≤ 1000) : ld (.list [.list (a.map PyData.int), .list (b.map PyData.int), .list (c.map PyData.int), .list (d.map PyData.int)]) = true := by
  show (decide (4 ≤ 1000) && (ld (.list (a.map PyData.int)) && (ld (.list (b.map PyData.int)) && (ld (.list (c.map PyData.int)) && (ld (.list (d.map PyData.int)) && true))))) = true
  rw [ld_list h1, ld_list h2, ld_list h3, ld_list h4]
  rfl
theorem dep4 (a b c d : List Int) : (PyData.list [.list (a.map PyData.int), .list (b.map PyData.int), .list (c.map PyData.int), .list (d.map PyData.int)]).depth < 4 := by
  have h1 := deep_ints a
  have h2 := deep_ints b
  have h3 := deep_ints c
  have h4 := deep_ints d
  show max (PyData.depthAll (a.map PyData.int) + 1) (max (PyData.depthAll (b.map PyData.int) + 1) (max (PyData.depthAll (c.map PyData.int) + 1) (max (PyData.depthAll (d.map PyData.int) + 1) 0))) + 1 < 4
  omega
section
variable {P : Program} {w : World} {K : PySem.W.Frag} {mg : Str → Option Value} {base : Heap}
def spLaw (K : PySem.W.Frag) : Sp := fun vs H Q _ => ∃ (a : Addr) (ns : List Int), vs = [.ref a] ∧ SqL K H a (ns.map V.int) ∧ ns.length ≤ 63 ∧ ∀ H', Q (.bl true) H'
theorem ok_law {f : Addr} {fd : FuncData} (F : Fun K "law" "law" s_law f fd) (B : Bi mg)
    (D_lawsource : Df P w K mg base 1 "_law_source" ["script"] (spSource K)) (D_lawdraw : Df P w K mg base 1 "_law_draw" ["source", "many"] spDraw) (D_lawrow : Df P w K mg base 2 "_law_row" ["source", "many", "wide"] spRow)
    (D_lawsingles : Df P w K mg base 3 "_law_singles" ["row", "top"] (spSin K)) (D_lawshuffled : Df P w K mg base 2 "_law_shuffled" ["source", "some"] (spShuf K)) (D_listof : Df P w K mg base 2 "list_of" ["singles"] (spListOf K))
    (K_listof : Dk P w K mg base 2 "list_of" ["singles"] ["singles"] (fun _ zs => zs) (spListOf K)) (D_lawsame : Df P w K mg base 5 "_law_same" ["found", "wanted"] (spSame K 4)) (D_lawgreatright : Df P w K mg base 6 "_law_great_right" ["source"] spGreatRight)
    (D_lawdue : Df P w K mg base 4 "_law_due" ["some"] (spDue K)) : Top P w K mg base 8 f fd "script" (spLaw K) := by
  refine atTop F sc_law ⟨rfl, by decide, by decide⟩ (fun vs H Q E h => ?_) (fun cdv outer s H vs Q E hr h => ?_)
  · obtain ⟨a, ns, rfl, _⟩ := h
    rfl
  · obtain ⟨a, ns, rfl, hS, hn, q⟩ := h
    refine ⟨_, (pss_cons (ps_set (i := 1) sc_law.nd rfl (Or.inr rfl) (pe_callD D_lawsource (hr.mono (by omega)) (by rfl) (pa_cons (pv 0) pa_nil)))
 (pss_cons (ps_for PassesOwn.never rfl (pi_range1 (by rfl) B.n_range (pa_cons (pe_op op_add pe_int (pe_callB (id := "min") (call_min2 rfl) (by rfl) B.n_min (by decide +kernel) (pa_cons pe_int (pa_cons (pe_callB (id := "len") (r := rLenK K) call_lenK (by rfl) B.n_len (by decide +kernel) (pa_cons (pv 0) pa_nil)) pa_nil)))) pa_nil)) (pg_name (i := 2) sc_law.nd rfl (Or.inl rfl))
 (pss_cons (ps_par (i := 3) (j := 4) (by rfl) sc_law.nd rfl rfl (by decide) rfl rfl (pa_cons (pe_lst pa_nil) (pa_cons pe_int pa_nil)) (by rfl))
 (pss_cons (ps_for PassesOwn.never rfl (pi_list (pe_callD D_lawrow (hr.mono (by omega)) (by rfl) (pa_cons (pv 1) (pa_cons pe_int (pa_cons (pe_ix (r := rIxL K) ix_list (pe_lst (pa_cons pe_int (pa_cons pe_int pa_nil))) (pe_callD D_lawdraw (hr.mono (by omega)) (by rfl) (pa_cons (pv 1) (pa_cons pe_int pa_nil))) (fun _ _ => rfl)) pa_nil))))) (pg_name (i := 5) sc_law.nd rfl (Or.inr rfl))
 (pss_one (ps_if (pt_cmpR op_le (pe_op op_mul (pv 4) (pv 5)) (pe_ix (r := rIxL K) ix_list (pe_lst (pa_cons pe_int (pa_cons pe_int pa_nil))) (pe_callD D_lawdraw (hr.mono (by omega)) (by rfl) (pa_cons (pv 1) (pa_cons pe_int pa_nil))) (fun _ _ => rfl)) (nomark _))
 (pss_cons (ps_expr (pe_bm PySem.F.plainAttrs_list PySem.F.slot_list_append PySem.F.type_list_append mt_append (pv 3) (pa_cons (pv 5) pa_nil)))
 (pss_one (ps_set (i := 4) sc_law.nd rfl (Or.inl rfl) (pe_op op_mul (pv 4) (pv 5)))))
 pss_nil)))
 (pss_cons (ps_set (i := 6) sc_law.nd rfl (Or.inl rfl) (pe_callD D_lawshuffled (hr.mono (by omega)) (by rfl) (pa_cons (pv 1) (pa_cons (pe_callD D_lawsingles (hr.mono (by omega)) (by rfl) (pa_cons (pv 3) (pa_cons (pv 4) pa_nil))) pa_nil))))
 (pss_cons (ps_set (i := 7) sc_law.nd rfl (Or.inl rfl) (pe_callB (id := "repr") (call_reprD rfl hr.units) (by rfl) B.n_repr (by decide +kernel) (pa_cons (pv 6) pa_nil)))
 (pss_cons (ps_set (i := 8) sc_law.nd rfl (Or.inl rfl) (pe_callD D_listof (hr.mono (by omega)) (by rfl) (pa_cons (pv 6) pa_nil)))
 (pss_cons (ps_if (PW.pt (pw_or (pt_not (pt_val (pe_callD D_lawsame (hr.mono (by omega)) (by rfl) (pa_cons (pe_lst (pa_cons (pv 8) (pa_cons (pe_callKD K_listof (hr.mono (by omega)) (by rfl) (pk_cons (pv 6) pk_nil)) pa_nil))) (pa_cons (pe_op op_rep (pe_lst (pa_cons (pv 3) pa_nil)) pe_int) pa_nil))))) (pw_or1 (pt_cmpR op_ne (pe_callB (id := "repr") (call_reprD rfl hr.units) (by rfl) B.n_repr (by decide +kernel) (pa_cons (pv 6) pa_nil)) (pv 7) (nomark _)))))
 (pss_one (ps_ret pe_bl))
 pss_nil)
 (pss_cons (ps_expr (pe_bm PySem.F.plainAttrs_list PySem.F.slot_list_append PySem.F.type_list_append mt_append (pv 8) (pa_cons pe_int pa_nil)))
 (pss_cons (ps_if (pt_cmpR (op_neD hr.units) (pe_callD D_listof (hr.mono (by omega)) (by rfl) (pa_cons (pv 6) pa_nil)) (pv 3) (nomark _))
 (pss_one (ps_ret pe_bl))
 pss_nil)
 (pss_cons (ps_if (pt_not (pt_val (pe_callD D_lawgreatright (hr.mono (by omega)) (by rfl) (pa_cons (pv 1) pa_nil))))
 (pss_one (ps_ret pe_bl))
 pss_nil)
 (pss_one (ps_for PassesOwn.never rfl (pi_range1 (by rfl) B.n_range (pa_cons pe_int pa_nil)) (pg_name (i := 9) sc_law.nd rfl (Or.inl rfl))
 (pss_cons (ps_setLc (own := [("run", 11)]) (g := gName 11) (i := 10) rfl sc_law.nd rfl rfl (sw_true rfl rfl rfl (by decide +kernel)) (pi_list (pv 6)) (blkOk_by (own := [("run", 11)]) (N := ["script", "source", "k", "row", "top", "one", "some", "saved", "told", "turn", "few", "run", "time", "fixed"]) (sc := defScope s_law) (by decide +kernel)) (fun _ _ _ _ _ => (pg_name (i := 11) sc_law.nd rfl (Or.inl rfl))) (fun _ _ _ _ _ => pts_one (pt_cmpR op_lt (pv 11) pe_int (nomark _))) (fun _ _ _ _ _ => (pv 11)))
 (pss_cons (ps_set (i := 5) sc_law.nd rfl (Or.inr rfl) (pe_op op_add pe_int (pe_callD D_lawdraw (hr.mono (by omega)) (by rfl) (pa_cons (pv 1) (pa_cons pe_int pa_nil)))))
 (pss_cons (ps_set (i := 10) sc_law.nd rfl (Or.inl rfl) (pe_op op_cat (pe_lc (own := [("run", 11)]) (g := gName 11) rfl sc_law.nd (pi_list (pv 10)) (blkOk_by (own := [("run", 11)]) (N := ["script", "source", "k", "row", "top", "one", "some", "saved", "told", "turn", "few", "run", "time", "fixed"]) (sc := defScope s_law) (by decide +kernel)) (fun _ _ _ _ _ => (pg_name (i := 11) sc_law.nd rfl (Or.inl rfl))) (fun _ _ _ _ _ => pts_one (pt_cmpR op_ne (pv 11) (pv 5) (nomark _))) (fun _ _ _ _ _ => (pv 11))) (pe_op op_rep (pe_lst (pa_cons (pv 5) pa_nil)) (pe_callD D_lawdraw (hr.mono (by omega)) (by rfl) (pa_cons (pv 1) (pa_cons pe_int pa_nil))))))
 (pss_cons (ps_if (pt_cmpR op_eq (pe_callD D_lawdraw (hr.mono (by omega)) (by rfl) (pa_cons (pv 1) (pa_cons pe_int pa_nil))) pe_int (nomark _))
 (pss_one (ps_set (i := 10) sc_law.nd rfl (Or.inl rfl) (pe_callB (id := "sorted") (r := rSortedSetI w) (cr_sortedSetI rfl) (by rfl) B.n_sorted (by decide +kernel) (pa_cons (pe_callTy (T := "set") (r := rSetL K w) (call_setL rfl) (by rfl) B.n_set (by decide +kernel) (pa_cons (pe_lc (own := [("time", 12)]) (g := gName 12) rfl sc_law.nd (pi_range1 (by rfl) B.n_range (pa_cons (pe_callD D_lawdraw (hr.mono (by omega)) (by rfl) (pa_cons (pv 1) (pa_cons pe_int pa_nil))) pa_nil)) (blkOk_by (own := [("time", 12)]) (N := ["script", "source", "k", "row", "top", "one", "some", "saved", "told", "turn", "few", "run", "time", "fixed"]) (sc := defScope s_law) (by decide +kernel)) (fun _ _ _ _ _ => (pg_name (i := 12) sc_law.nd rfl (Or.inl rfl))) (fun _ _ _ _ _ => pts_nil) (fun _ _ _ _ _ => (pe_op op_add pe_int (pe_callD D_lawdraw (hr.mono (by omega)) (by rfl) (pa_cons (pv 1) (pa_cons pe_int pa_nil)))))) pa_nil)) pa_nil))))
 pss_nil)
 (pss_one (ps_if (pt_not (pt_val (pe_callD D_lawsame (hr.mono (by omega)) (by rfl) (pa_cons (pe_callD D_listof (hr.mono (by omega)) (by rfl) (pa_cons (pv 10) pa_nil)) (pa_cons (pe_callD D_lawdue (hr.mono (by omega)) (by rfl) (pa_cons (pv 10) pa_nil)) pa_nil)))))
 (pss_one (ps_ret pe_bl))
 pss_nil))))))))))))))))))
 (pss_cons (ps_set (i := 13) sc_law.nd rfl (Or.inl rfl) (pe_lst (pa_cons (pe_callD D_listof (hr.mono (by omega)) (by rfl) (pa_cons (pe_listRg rfl (by rfl) B.n_list (prg_2 (by rfl) B.n_range pe_int pe_int)) pa_nil)) (pa_cons (pe_callD D_listof (hr.mono (by omega)) (by rfl) (pa_cons (pe_lst (pa_cons (pe_op op_pow pe_int pe_int) (pa_cons pe_int (pa_cons (pe_op op_sub (pe_op op_pow pe_int pe_int) pe_int) (pa_cons pe_int pa_nil))))) pa_nil)) (pa_cons (pe_callD D_listof (hr.mono (by omega)) (by rfl) (pa_cons (pe_lst (pa_cons pe_int (pa_cons pe_int pa_nil))) pa_nil)) pa_nil)))))
 (pss_cons (ps_expr (pe_bm PySem.F.plainAttrs_list PySem.F.slot_list_append PySem.F.type_list_append mt_append (pv 13) (pa_cons (pe_callD D_listof (hr.mono (by omega)) (by rfl) (pa_cons (pe_lst (pa_cons pe_int (pa_cons pe_int (pa_cons pe_int (pa_cons pe_int (pa_cons (pe_op op_pow pe_int pe_int) pa_nil)))))) pa_nil)) pa_nil)))
 (pss_cons (ps_if (pt_not (pt_val (pe_callD D_lawsame (hr.mono (by omega)) (by rfl) (pa_cons (pv 13) (pa_cons (pe_lst (pa_cons (pe_op op_rep (pe_lst (pa_cons pe_int pa_nil)) pe_int) (pa_cons (pe_lst (pa_cons pe_int (pa_cons pe_int pa_nil))) (pa_cons (pe_lst (pa_cons pe_int pa_nil)) (pa_cons (pe_lst (pa_cons pe_int (pa_cons pe_int pa_nil))) pa_nil))))) pa_nil)))))
 (pss_one (ps_ret pe_bl))
 pss_nil)
 (pss_one (ps_ret (pe_and (pe_cmpR (op_eqD hr.units) (pe_callD D_listof (hr.mono (by omega)) (by rfl) (pa_cons (pe_lst (pa_cons pe_int (pa_cons pe_int (pa_cons pe_int (pa_cons pe_int (pa_cons pe_int pa_nil)))))) pa_nil)) (pe_lst (pa_cons pe_int (pa_cons pe_int pa_nil))) (nomark _)) (pe_and (pe_cmpR (op_eqD hr.units) (pe_callD D_listof (hr.mono (by omega)) (by rfl) (pa_cons (pe_lst (pa_cons pe_int pa_nil)) pa_nil)) (pe_lst pa_nil) (nomark _)) (pe_one (pe_cmpR (op_eqD hr.units) (pe_callD D_listof (hr.mono (by omega)) (by rfl) (pa_cons (pe_lst (pa_cons pe_int (pa_cons pe_int pa_nil))) pa_nil)) (pe_lst (pa_cons pe_int pa_nil)) (nomark _)))))))))))), ?_⟩
    have lim : sizeLine = 16777216 := sizeLine_eq
    have small : ∀ {z : Int}, 0 ≤ z → z ≤ 1000000000000000000000000000000 → z.natAbs < 2 ^ 500 := fun h0 h1 => Nat.lt_of_le_of_lt (show _ ≤ 10 ^ 30 by omega) (by decide)
    refine ⟨_, rfl, a, ns, rfl, hS, hn, fun l d mix H1 hl hd s1 S1 => ?_⟩
    refine ⟨_, rfl, a, _, rfl, .inl (s1.seq hS), 8, _, rfl, 3, _, rfl, rfl, ?_⟩
    rw [List.length_map]
    have hN : 3 + (if (ns.length : Int) < 8 then (ns.length : Int) else 8) ≤ 11 ∧ 0 ≤ 3 + (if (ns.length : Int) < 8 then (ns.length : Int) else 8) := by
      split <;> omega
    obtain ⟨N, eN⟩ : ∃ N, N = 3 + (if (ns.length : Int) < 8 then (ns.length : Int) else 8) := ⟨_, rfl⟩
    rw [← eN] at hN
    refine ⟨N, by subst eN; rfl, by omega, by omega, for_range (lo := 0) (n := N.toNat) (fun i σ H' => ∃ cnt, ∃ y2 y3 y4 y5 y6 y7 y8 y9 y10, σ = [some (.ref a), some (.ref l), y2, y3, y4, y5, y6, y7, y8, y9, y10, none, none, none] ∧ Src H' l d mix cnt ∧ cnt ≤ 3000 * i)
      ⟨0, none, none, none, none, none, none, none, none, none, rfl, S1, by omega⟩ ?_ ?_⟩
    · rintro i σ H2 hi ⟨cnt, y2, y3, y4, y5, y6, y7, y8, y9, y10, rfl, S2, hc2⟩
      have w2 : 2 ≤ sizeLine := by omega
      refine ⟨Nat.zero_le _, fun pr hpr => ⟨_, _, rfl, ?_⟩⟩
      have S3 := S2.same (same_new (o := .lst []) hpr)
      have gp3 : (upd H2 pr (.lst [])) pr = some (.lst (([] : List Int).map V.int)) := upd_same
      have nl := S2.nel hpr
      have nd := S2.ned hpr
      generalize upd H2 pr (.lst []) = H3 at S3 gp3 ⊢
      refine ⟨_, rfl, w2, fun t ht => ⟨_, rfl, l, d, mix, cnt, 2, rfl, S3.same (same_new ht), by omega, by decide, by decide, fun z1 c1 H4 z10 z11 S4 hc4 k4 => ?_⟩⟩
      obtain ⟨wd, wa, wb⟩ := at2x (a := 4) (b := 40) z10 z11
      have wb2 : 2 ≤ wd ∧ wd ≤ 40 := by omega
      have gp4 := k4 _ _ (same_new ht _ _ gp3) nl nd
      refine ⟨t, _, z1, .int wd, rfl, rfl, SqL.of (k4 _ _ upd_same (S3.nel ht) (S3.ned ht)), wa, l, d, mix, c1, 8, wd, rfl, S4, by omega, by decide, by decide, wb2.1, by omega, fun pk ks c5 H5 hpk S5 hc5 k5 gk5 lk hks => ?_⟩
      have gp5 := k5 _ _ gp4 nl nd
      have npk : pr ≠ pk := ne_of_none gp4 hpk
      refine ⟨pk, rfl, ⟨_, SqL.of gk5⟩, for_list (K := K) (a := pk) (xs := ks.map V.int) (fun j σ H' => ∃ (rs : List Int) (c' : Int), ∃ y5, σ = [some (.ref a), some (.ref l), some (.int (0 + (i : Int))), some (.ref pr), some (.int (pro rs)), y5, y6, y7, y8, y9, y10, none, none, none] ∧ Src H' l d mix c' ∧ c' ≤ c5 + j ∧
        H' pr = some (.lst (rs.map V.int)) ∧ H' pk = some (.lst (ks.map V.int)) ∧ rs.length ≤ j ∧ (∀ k ∈ rs, 2 ≤ k ∧ k ≤ 40) ∧ pro rs ≤ 2000) ⟨[], c5, _, rfl, S5, by omega, gp5, gk5, Nat.le_refl _, fun k hk => absurd hk List.not_mem_nil, by decide⟩ ?_ ?_ ?_⟩
      · rintro j σ H' hj ⟨rs, c', y5, rfl, S6, hc6, gp6, gk6, _⟩
        exact SqL.of gk6
      · rintro j v σ H6 hv ⟨rs, c6, y5, rfl, S6, hc6, gp6, gk6, lr, br, pl⟩
        obtain ⟨one, eo, rfl⟩ := map_at hv
        have ob := hks one (List.mem_of_getElem? eo)
        have jl : j < ks.length := (List.getElem?_eq_some_iff.mp eo).1
        have two : ∀ k ∈ rs, 2 ≤ k := fun k hk => (br k hk).1
        have pp := pro_pos two
        refine ⟨_, rfl, _, rfl, pro rs, one, rfl, rfl, .inl ⟨by omega, by omega⟩, w2, fun t2 ht2 => ⟨_, rfl, l, d, mix, c6, 2, rfl, S6.same (same_new ht2), by omega, by decide, by decide, fun z2 c7 H7 z20 z21 S7 hc7 k7 => ?_⟩⟩
        obtain ⟨tp, ta, tb⟩ := at2x (a := 2000) (b := 60) z20 z21
        have gp7 := k7 _ _ (same_new ht2 _ _ gp6) nl nd
        have nkl : pk ≠ l := fun z => by rw [z] at gk5; obtain ⟨cur, ds, o1, o2⟩ := S4.ob; rw [z] at hpk; rw [o1] at hpk; cases hpk
        have nkd : pk ≠ d := fun z => by rw [z] at gk5; obtain ⟨cur, ds, o1, o2⟩ := S4.ob; rw [z] at hpk; rw [o2] at hpk; cases hpk
        have gk7 := k7 _ _ (same_new ht2 _ _ gk6) nkl nkd
        refine ⟨t2, _, z2, .int tp, rfl, rfl, SqL.of (k7 _ _ upd_same (S6.nel ht2) (S6.ned ht2)), ta, _, _, rfl, rfl, _, rfl, ite2 (fun c => ?_) (fun _ => ⟨rs, c7, _, rfl, S7, by omega, gp7, gk7, by omega, br, pl⟩)⟩
        have c : pro rs * one ≤ tp := of_decide_eq_true c
        refine ⟨_, rfl, .inl ⟨rfl, _, SqL.of gp7⟩, _, rfl, pr, _, _, rfl, rfl, gp7, by rw [List.length_map]; omega, ?_⟩
        refine ⟨_, rfl, _, rfl, pro rs, one, rfl, rfl, .inl ⟨by omega, by omega⟩, ?_⟩
        dsimp only
        rw [← pro_snoc]
        obtain ⟨cur, ds, o1, o2⟩ := S7.ob
        refine ⟨rs ++ [one], c7, _, rfl, ⟨⟨cur, ds, by rw [upd_ne nl.symm]; exact o1, by rw [upd_ne nd.symm]; exact o2⟩, S7.m0, S7.m1, S7.c0, S7.ne⟩, by omega, ?_, by rw [upd_ne npk.symm]; exact gk7, by rw [List.length_append]; exact Nat.succ_le_succ lr, fun k hk => ?_, by rw [pro_snoc]; omega⟩
        · rw [upd_same, List.map_append]
          rfl
        · rcases List.mem_append.mp hk with h | h
          · exact br k h
          · have := List.mem_singleton.mp h
            omega
      rintro σ H6 ⟨rs, c6, y5, rfl, S6, hc6, gp6, gk6, lr, br, pl⟩
      rw [List.length_map] at lr hc6
      have lr8 : rs.length ≤ 8 := by omega
      have two : ∀ k ∈ rs, 2 ≤ k := fun k hk => (br k hk).1
      have pp := pro_pos two
      clear gk6 gk5 hpk npk k5 k4 gp4 gp5 gp3 S3 S4 S5
      refine ⟨_, rfl, _, rfl, _, rfl, pr, rs, pro rs, rfl, SqL.of gp6, fun k hk => by have := br k hk; omega, by omega, pl, fun ps H7 hps s7 g7 => ?_⟩
      have S7 := S6.same s7
      have ls := sinL_len rs (pro rs).toNat
      refine ⟨l, d, ps, mix, c6, sinL rs (pro rs).toNat, rfl, S7, by omega, SqL.of g7, by omega, fun p2 ys c8 H8 hp2 S8 hc8 k8 g8 pm => ?_⟩
      have ly := pm.length_eq
      have gp8 := k8 _ _ (s7 _ _ gp6) nl nd
      have n2l := S7.nel hp2
      have n2d := S7.ned hp2
      have n2r : pr ≠ p2 := ne_of_none (s7 _ _ gp6) hp2
      have R : Right ys rs := sinL_right two fun n => pm.mem_iff
      have by' : ∀ n ∈ ys, 1 ≤ n ∧ n ≤ 2000 := fun n hn => by
        have := mem_sinL.mp (pm.mem_iff.mp hn)
        omega
      have ndy : ys.Nodup := pm.nodup_iff.mpr (asc_nodup (sinL_asc _ _))
      have gdy := gda_ints20 ys fun k hk => Nat.lt_of_le_of_lt (m := 2000) (by have := by' k hk; omega) (by decide)
      have gdl := gdy.1.list
      have shy := fits40 gdl.lf (by have := gdl.wt; omega)
      clear g7 s7 hps S6 S7 gp6
      refine ⟨_, rfl, p2, .list (ys.map PyData.int), rfl, .lst (SqL.of g8) (dp_ints ys), gdl.sh, gdl.nd, Nat.le_trans gdl.dep (by decide), shy, ?_⟩
      refine ⟨_, rfl, p2, ys, rfl, SqL.of g8, ndy, by omega, fun n hn => by have := by' n hn; omega, fun no => absurd R (no rs), fun row9 R9 p3 H9 hp3 s9 g9 => ?_⟩
      obtain rfl := right_uniq R9 R
      have gp9 := s9 _ _ gp8
      have gs9 := s9 _ _ g8
      have S9 := S8.same s9
      have n3r : p3 ≠ pr := (ne_of_none gp8 hp3).symm
      have n3s : p3 ≠ p2 := (ne_of_none g8 hp3).symm
      have n3l := S8.nel hp3
      have n3d := S8.ned hp3
      -- by name, and the argument as it was
      refine ⟨_, rfl, _, rfl, rfl, rfl, p2, ys, rfl, SqL.of gs9, ndy, by omega, fun n hn => by have := by' n hn; omega, fun no => absurd R (no row9), fun row10 R10 p4 H10 hp4 s10 g10 => ?_⟩
      obtain rfl := right_uniq R10 R
      refine ⟨w2, fun t3 ht3 => ?_⟩
      have u1 := same_new (o := .lst [.ref p3, .ref p4]) ht3
      refine ⟨_, rfl, by show 1 ≤ _; omega, fun t4 ht4 => ?_⟩
      have u2 := same_new (o := .lst [.ref pr]) ht4
      refine ⟨t4, 2, _, rfl, rfl, upd_same, by decide, by decide, by show 1 * 2 ≤ _; omega, fun t5 ht5 => ?_⟩
      have u3 := same_new (o := .lst (List.replicate (Int.toNat 2) [V.ref pr]).flatten) ht5
      have z3 := (s10.trans u1).trans (u2.trans u3)
      have g5' : (upd (upd (upd H10 t3 (.lst [.ref p3, .ref p4])) t4 (.lst [.ref pr])) t5 (.lst (List.replicate (Int.toNat 2) [V.ref pr]).flatten)) t5 = some (.lst [.ref pr, .ref pr]) := upd_same
      have g3' : (upd (upd (upd H10 t3 (.lst [.ref p3, .ref p4])) t4 (.lst [.ref pr])) t5 (.lst (List.replicate (Int.toNat 2) [V.ref pr]).flatten)) t3 = some (.lst [.ref p3, .ref p4]) := u3 _ _ (u2 _ _ upd_same)
      have g4' := u3 _ _ (u2 _ _ (u1 _ _ g10))
      generalize upd (upd (upd H10 t3 (.lst [.ref p3, .ref p4])) t4 (.lst [.ref pr])) t5 (.lst (List.replicate (Int.toNat 2) [V.ref pr]).flatten) = J1 at z3 g5' g3' g4' ⊢
      refine ⟨.ref t3, .ref t5, .list [.list (row10.map PyData.int), .list (row10.map PyData.int)], rfl, .lst (SqL.of g3') (.cons (.lst (SqL.of (z3 _ _ g9)) (dp_ints _)) (.cons (.lst (SqL.of g4') (dp_ints _)) .nil)), .lst (SqL.of g5') (.cons (.lst (SqL.of (z3 _ _ gp9)) (dp_ints _)) (.cons (.lst (SqL.of (z3 _ _ gp9)) (dp_ints _)) .nil)), ld2 (by omega) (by omega), dep2 _ _, fun J2 sj2 => ⟨_, rfl, ?_⟩⟩
      have z4 := z3.trans sj2
      clear g5' g3' g4' u1 u2 u3 z3 sj2 s10 g10
      refine iteF ⟨_, rfl, p2, .list (ys.map PyData.int), rfl, .lst (SqL.of (z4 _ _ gs9)) (dp_ints ys), gdl.sh, gdl.nd, Nat.le_trans gdl.dep (by decide), shy, _, rfl, rfl, _, rfl, ?_⟩
      rw [decide_eq_true rfl]
      refine iteF ?_
      -- a changed result
      have gt2 := z4 _ _ g9
      have gs2 := z4 _ _ gs9
      have gp2 := z4 _ _ gp9
      have S2' := S9.same z4
      refine ⟨_, rfl, .inl ⟨rfl, _, SqL.of gt2⟩, p3, _, _, rfl, rfl, gt2, by rw [List.length_map]; omega, ?_⟩
      have gs3 : (upd J2 p3 (.lst (row10.map V.int ++ [.int 1]))) p2 = some (.lst (ys.map V.int)) := by rw [upd_ne n3s.symm]; exact gs2
      have gp3 : (upd J2 p3 (.lst (row10.map V.int ++ [.int 1]))) pr = some (.lst (row10.map V.int)) := by rw [upd_ne n3r.symm]; exact gp2
      have S3' : Src (upd J2 p3 (.lst (row10.map V.int ++ [.int 1]))) l d mix c8 := by
        obtain ⟨cur, ds, o1, o2⟩ := S2'.ob
        exact ⟨⟨cur, ds, by rw [upd_ne n3l.symm]; exact o1, by rw [upd_ne n3d.symm]; exact o2⟩, S2'.m0, S2'.m1, S2'.c0, S2'.ne⟩
      generalize upd J2 p3 (.lst (row10.map V.int ++ [.int 1])) = J3 at gs3 gp3 S3' ⊢
      clear gt2 gs2 gp2 S2' z4 g9 gs9 gp9 S9 s9
      refine ⟨_, rfl, p2, ys, rfl, SqL.of gs3, ndy, by omega, fun n hn => by have := by' n hn; omega, fun no => absurd R (no row10), fun row11 R11 p6 J4 hp6 sj4 g6 => ?_⟩
      obtain rfl := right_uniq R11 R
      refine ⟨_, rfl, _, _, .lst (SqL.of g6) (dp_ints _), .lst (SqL.of (sj4 _ _ gp3)) (dp_ints _), shaped_ints _, shaped_ints _, _, rfl, ?_⟩
      rw [eqv_ints, decide_eq_true rfl]
      refine iteF ?_
      refine ⟨_, rfl, l, d, mix, c8, rfl, S3'.same sj4, by omega, fun c9 J5 S5 hc9 k9 => ⟨_, rfl, iteF ?_⟩⟩
      have gs5 := k9 _ _ (sj4 _ _ gs3) n2l n2d
      clear k9 S3' gp3 gs3 g6 sj4
      refine ⟨4, rfl, by decide, by decide, for_range (lo := 0) (n := 4) (fun j σ H' => ∃ cj : Int, ∃ y5 y9 y10, σ = [some (.ref a), some (.ref l), some (.int (0 + (i : Int))), some (.ref pr), some (.int (pro row11)), y5, some (.ref p2), some (.str (PyData.list (ys.map PyData.int)).shown), some (.ref p3), y9, y10, none, none, none] ∧ Src H' l d mix cj ∧ cj ≤ c9 + 20 * j ∧ H' p2 = some (.lst (ys.map V.int)))
        ⟨c9, _, _, _, rfl, S5, by omega, gs5⟩ ?_ ?_⟩
      · rintro j σ J6 hj ⟨cj, y5, y9, y10, rfl, S6, hcj, gs6⟩
        -- the runs below 61
        refine ⟨_, rfl, p2, rfl, ⟨_, SqL.of gs6⟩, fun D hD => lc_list (K := K) (a := p2) (xs := ys.map V.int) (fun b H' => Same J6 (wo H' D) ∧ H' D = some (.lst (((ys.take b).filter fun n => decide (n < 61)).map V.int))) ⟨by rw [wo_upd]; exact same_wo (Same.refl _) hD, upd_same⟩ (fun b H' _ h => SqL.of (wo_same _ _ (h.1 _ _ gs6))) ?_ ?_⟩
        · rintro b v H' hv ⟨s7, g7⟩
          obtain ⟨n, en, rfl⟩ := map_at hv
          refine ⟨rfl, _, rfl, _, _, rfl, rfl, _, rfl, ?_⟩
          have fl := List.length_filter_le (fun n : Int => decide (n < 61)) (ys.take b)
          have tl := List.length_take_le b ys
          have bl := (List.getElem?_eq_some_iff.mp en).1
          by_cases c : n < 61
          · rw [decide_eq_true c]
            refine iteT ⟨_, rfl, _, g7, by rw [List.length_map]; omega, by rw [wo_upd]; exact s7, ?_⟩
            rw [upd_same, filter_step en, if_pos (decide_eq_true c), List.map_append]
            rfl
          · rw [decide_eq_false c]
            refine iteF ⟨s7, ?_⟩
            rw [filter_step en, if_neg (by rw [decide_eq_false c]; exact Bool.false_ne_true), List.append_nil]
            exact g7
        rintro J7 ⟨s7, g7⟩
        rw [List.length_map, List.take_length] at g7
        have s67 := s7.trans (wo_same (H := J7) (D := D))
        have gs7 := s67 _ _ gs6
        have S7 := S6.same s67
        have nDl := S6.nel hD
        have nDd := S6.ned hD
        obtain ⟨F1, eF1⟩ : ∃ F1, F1 = ys.filter fun n => decide (n < 61) := ⟨_, rfl⟩
        rw [← eF1] at g7
        have nF1 : F1.Nodup := by rw [eF1]; exact ndy.filter _
        have bF1 : ∀ n ∈ F1, 1 ≤ n ∧ n ≤ 60 := fun n hn => by
          rw [eF1] at hn
          obtain ⟨h1, h2⟩ := List.mem_filter.mp hn
          have := by' n h1
          have := of_decide_eq_true h2
          omega
        have lF1 : F1.length ≤ 2000 := by rw [eF1]; exact Nat.le_trans (List.length_filter_le _ _) (by omega)
        clear s7 s67 hD eF1 S6 gs6
        -- one of them changed
        refine ⟨_, rfl, l, d, mix, cj, 60, rfl, S7, by omega, by decide, by decide, fun zo c8 J8 zo0 zo1 S8 hc8' k8 => ⟨_, _, rfl, rfl, ?_⟩⟩
        obtain ⟨one, eo⟩ : ∃ one, one = 1 + zo := ⟨_, rfl⟩
        dsimp only
        rw [← eo]
        have ob : 1 ≤ one ∧ one ≤ 60 := by omega
        have g8' := k8 _ _ g7 nDl nDd
        have gs8 := k8 _ _ gs7 n2l n2d
        refine ⟨_, rfl, D, rfl, ⟨_, SqL.of g8'⟩, fun D2 hD2 => lc_list (K := K) (a := D) (xs := F1.map V.int) (fun b H' => Same J8 (wo H' D2) ∧ H' D2 = some (.lst (((F1.take b).filter fun n => !decide (n = one)).map V.int))) ⟨by rw [wo_upd]; exact same_wo (Same.refl _) hD2, upd_same⟩ (fun b H' _ h => SqL.of (wo_same _ _ (h.1 _ _ g8'))) ?_ ?_⟩
        · rintro b v H' hv ⟨s7, g7⟩
          obtain ⟨n, en, rfl⟩ := map_at hv
          refine ⟨rfl, _, rfl, _, rfl, rfl, _, rfl, ?_⟩
          have fl := List.length_filter_le (fun n : Int => !decide (n = one)) (F1.take b)
          have tl := List.length_take_le b F1
          have bl := (List.getElem?_eq_some_iff.mp en).1
          by_cases c : n = one
          · rw [decide_eq_true (congrArg V.int c)]
            refine iteF ⟨s7, ?_⟩
            rw [filter_step en, if_neg (by rw [decide_eq_true c]; exact Bool.false_ne_true), List.append_nil]
            exact g7
          · rw [decide_eq_false (fun z => c (by injection z))]
            refine iteT ⟨_, rfl, _, g7, by rw [List.length_map]; omega, by rw [wo_upd]; exact s7, ?_⟩
            rw [upd_same, filter_step en, if_pos (by rw [decide_eq_false c]; rfl), List.map_append]
            rfl
        rintro J9 ⟨s9, g9⟩
        rw [List.length_map, List.take_length] at g9
        have s89 := s9.trans (wo_same (H := J9) (D := D2))
        have gs9 := s89 _ _ gs8
        have S9 := S8.same s89
        have nD2l := S8.nel hD2
        have nD2d := S8.ned hD2
        obtain ⟨F2, eF2⟩ : ∃ F2, F2 = F1.filter fun n => !decide (n = one) := ⟨_, rfl⟩
        rw [← eF2] at g9
        have nF2 : F2.Nodup := by rw [eF2]; exact nF1.filter _
        have bF2 : ∀ n ∈ F2, n ∈ F1 ∧ n ≠ one := fun n hn => by
          rw [eF2] at hn
          obtain ⟨h1, h2⟩ := List.mem_filter.mp hn
          refine ⟨h1, fun e => ?_⟩
          rw [decide_eq_true e] at h2
          cases h2
        have lF2 : F2.length ≤ 2000 := by rw [eF2]; exact Nat.le_trans (List.length_filter_le _ _) lF1
        clear s9 s89 hD2 eF2 g8' g7 S7 k8 gs7 gs8 S8
        refine ⟨_, rfl, by show 1 ≤ _; omega, fun o1 ho1 => ⟨_, rfl, l, d, mix, c8, 2, rfl, S9.same (same_new ho1), by omega, by decide, by decide, fun zr c10 J10 zr0 zr1 S10 hc10 k10 => ?_⟩⟩
        have go10 := k10 _ _ (upd_same (H := J9) (a := o1) (o := .lst [.int one])) (S9.nel ho1) (S9.ned ho1)
        have gd10 := k10 _ _ (same_new (o := .lst [.int one]) ho1 _ _ g9) nD2l nD2d
        have gs10 := k10 _ _ (same_new (o := .lst [.int one]) ho1 _ _ gs9) n2l n2d
        refine ⟨o1, zr, _, rfl, rfl, go10, by omega, by omega, by show 1 * zr.toNat ≤ _; omega, fun o2 ho2 => ?_⟩
        obtain ⟨tail, et, nt, bt⟩ : ∃ tail : List Int, (List.replicate zr.toNat [V.int one]).flatten = tail.map V.int ∧ tail.Nodup ∧ ∀ n ∈ tail, n = one := by
          have : zr = 0 ∨ zr = 1 := by omega
          rcases this with rfl | rfl
          · exact ⟨[], rfl, List.nodup_nil, fun n hn => absurd hn List.not_mem_nil⟩
          · exact ⟨[one], rfl, List.nodup_cons.mpr ⟨List.not_mem_nil, List.nodup_nil⟩, fun n hn => List.mem_singleton.mp hn⟩
        have lt : tail.length ≤ 1 := by
          have e := congrArg List.length et
          rw [List.length_flatten, List.map_replicate, List.sum_replicate_nat, List.length_map] at e
          show tail.length ≤ 1
          rw [← e]
          show zr.toNat * 1 ≤ 1
          omega
        rw [et]
        have u2 := same_new (o := .lst (tail.map V.int)) ho2
        refine ⟨D2, o2, _, _, rfl, rfl, u2 _ _ gd10, upd_same, by rw [List.length_map, List.length_map]; omega, fun fp hfp => ?_⟩
        rw [← List.map_append]
        have nfl := (S10.same u2).nel hfp
        have nfd := (S10.same u2).ned hfp
        have u3 := same_new (o := .lst ((F2 ++ tail).map V.int)) hfp
        have gf : (upd (upd J10 o2 (.lst (tail.map V.int))) fp (.lst ((F2 ++ tail).map V.int))) fp = some (.lst ((F2 ++ tail).map V.int)) := upd_same
        have z3 := u2.trans u3
        have gs11 := z3 _ _ gs10
        have S11 := S10.same z3
        generalize upd (upd J10 o2 (.lst (tail.map V.int))) fp (.lst ((F2 ++ tail).map V.int)) = J11 at gf gs11 S11 ⊢
        have nF : (F2 ++ tail).Nodup := List.nodup_append.mpr ⟨nF2, nt, fun x hx y hy e => (bF2 x hx).2 (by rw [e]; exact bt y hy)⟩
        have bF : ∀ n ∈ F2 ++ tail, 1 ≤ n ∧ n ≤ 60 := fun n hn => by
          rcases List.mem_append.mp hn with h | h
          · exact bF1 n (bF2 n h).1
          · rw [bt n h]; exact ob
        have lF : (F2 ++ tail).length ≤ 2001 := by rw [List.length_append]; omega
        clear u2 u3 z3 go10 gd10 gs10 S10 k10 g9 gs9 S9 et ho1 hfp
        generalize F2 ++ tail = few at gf nF bF lF
        -- or a small set of any runs
        refine tellNx (fun σ2 H' => ∃ (zs : List Int) (fp : Addr) (c' : Int), σ2 = [some (.ref a), some (.ref l), some (.int (0 + (i : Int))), some (.ref pr), some (.int (pro row11)), some (.int one), some (.ref p2), some (.str (PyData.list (ys.map PyData.int)).shown), some (.ref p3), some (.int (0 + (j : Int))), some (.ref fp), none, none, none] ∧ Src H' l d mix c' ∧ c' ≤ cj + 14 ∧ H' p2 = some (.lst (ys.map V.int)) ∧
          H' fp = some (.lst (zs.map V.int)) ∧ zs.Nodup ∧ (∀ n ∈ zs, 1 ≤ n ∧ n ≤ 60) ∧ zs.length ≤ 2001) (fun N hN => ?_) (fun σ2 H' h => ?_)
        · refine ⟨_, rfl, l, d, mix, c10, 3, rfl, S11, by omega, by decide, by decide, fun z3 c12 H12 z30 z31 S12 hc12 k12 => ⟨rfl, _, rfl, ite2 (fun _ => ?_) (fun _ => ?_)⟩⟩
          · have gs12 := k12 _ _ gs11 n2l n2d
            refine ⟨_, rfl, l, d, mix, c12, 9, rfl, S12, by omega, by decide, by decide, fun z9 c13 H13 z90 z91 S13 hc13 k13 => ⟨z9, rfl, by omega, by omega, fun D hD => ?_⟩⟩
            have gs13 := k13 _ _ gs12 n2l n2d
            have nDl := S13.nel hD
            have nDd := S13.ned hD
            have nDs : D ≠ p2 := (ne_of_none gs13 hD).symm
            refine lc_range (lo := 0) (n := z9.toNat) (fun b H' => ∃ (c' : Int) (zs : List Int), Src H' l d mix c' ∧ c' ≤ c13 + b ∧ H' p2 = some (.lst (ys.map V.int)) ∧ H' D = some (.lst (zs.map V.int)) ∧ zs.length = b ∧ ∀ n ∈ zs, 1 ≤ n ∧ n ≤ 60)
              ⟨c13, [], S13.same (same_new hD), by omega, same_new hD _ _ gs13, upd_same, rfl, fun n hn => absurd hn List.not_mem_nil⟩ ?_ ?_
            · rintro b H14 hb ⟨c', zs, S14, hc14, gs14, gD, lz, bz⟩
              refine ⟨rfl, ?_⟩
              refine ⟨_, rfl, l, d, mix, c', 20, rfl, S14, by omega, by decide, by decide, fun zz c15 H15 zz0 zz1 S15 hc15 k15 => ⟨_, _, rfl, rfl, _, k15 _ _ gD nDl nDd, by rw [List.length_map]; omega, c15, zs ++ [1 + zz], ?_, by omega, ?_, ?_, by rw [List.length_append, lz]; rfl, fun n hn => ?_⟩⟩
              · obtain ⟨cur, ds, o1, o2⟩ := S15.ob
                exact ⟨⟨cur, ds, by rw [upd_ne nDl.symm]; exact o1, by rw [upd_ne nDd.symm]; exact o2⟩, S15.m0, S15.m1, S15.c0, S15.ne⟩
              · rw [upd_ne nDs.symm]
                exact k15 _ _ gs14 n2l n2d
              · rw [upd_same, List.map_append]
                rfl
              · rcases List.mem_append.mp hn with h | h
                · exact bz n h
                · have := List.mem_singleton.mp h
                  omega
            · rintro H14 ⟨c', zs, S14, hc14, gs14, gD, lz, bz⟩
              refine ⟨D, zs, rfl, SqL.of gD, by omega, fun st m hst lm _ => ?_⟩
              have u1 := same_new (o := SetO w st (fun j => decide (j ∈ zs)) m) hst
              refine ⟨st, _, m, rfl, upd_same, by omega, fun srt fp3 asc mem len hfp3 => ?_⟩
              have u2 := same_new (o := .lst (srt.map V.int)) hfp3
              exact hN _ _ ⟨srt, fp3, c', rfl, (S14.same u1).same u2, by omega, u2 _ _ (u1 _ _ gs14), upd_same, asc_nodup asc, fun n hn => bz n (of_decide_eq_true ((mem n).mp hn)), by omega⟩
          · exact hN _ _ ⟨few, fp, c12, rfl, S12, by omega, k12 _ _ gs11 n2l n2d, k12 _ _ gf nfl nfd, nF, bF, lF⟩
        · obtain ⟨zs, fp2, c', rfl, S12, hc12, gs12, gf12, nz, bz, lz⟩ := h
          by_cases cR : ∃ row, Right zs row
          · obtain ⟨rw', Rw⟩ := cR
            have pw := (bz _ ((Rw.2 _ (single_top Rw.1).1).mpr (single_top Rw.1))).2
            have lw := len_pro Rw.1
            refine ⟨_, rfl, fp2, zs, rfl, SqL.of gf12, nz, by omega, fun n hn => by have := bz n hn; omega, fun no => absurd Rw (no rw'), fun row12 R12 p7 J7 hp7 s7 g7 => ?_⟩
            obtain rfl := right_uniq R12 Rw
            refine ⟨_, rfl, fp2, zs, rfl, SqL.of (s7 _ _ gf12), nz, bz, fun no => absurd Rw (no row12), fun row13 R13 p8 J8 s8 g8 => ?_⟩
            obtain rfl := right_uniq R13 Rw
            refine ⟨.ref p7, .ref p8, .list (row13.map PyData.int), rfl, .lst (SqL.of (s8 _ _ g7)) (dp_ints _), .lst (SqL.of g8) (dp_ints _), ld_list (by omega), dep_list _, fun J9 s9 => ⟨_, rfl, iteF ?_⟩⟩
            have z9 := (s7.trans s8).trans s9
            exact ⟨c', _, _, _, rfl, S12.same z9, by omega, z9 _ _ gs12⟩
          · refine ⟨_, rfl, fp2, zs, rfl, SqL.of gf12, nz, by omega, fun n hn => by have := bz n hn; omega, fun _ J7 s7 => ?_, fun row12 R12 => absurd ⟨row12, R12⟩ cR⟩
            refine ⟨_, rfl, fp2, zs, rfl, SqL.of (s7 _ _ gf12), nz, bz, fun _ J8 s8 => ?_, fun row12 R12 => absurd ⟨row12, R12⟩ cR⟩
            refine ⟨.non, .non, .none, rfl, .non, .non, rfl, by decide, fun J9 s9 => ⟨_, rfl, iteF ?_⟩⟩
            have z9 := (s7.trans s8).trans s9
            exact ⟨c', _, _, _, rfl, S12.same z9, by omega, z9 _ _ gs12⟩
      · rintro σ J6 ⟨cj, y5, y9, y10, rfl, S6, hcj, gs6⟩
        exact ⟨cj, _, _, _, _, _, _, _, _, _, rfl, S6, by omega⟩
    · rintro σ H2 ⟨cnt, y2, y3, y4, y5, y6, y7, y8, y9, y10, rfl, S2, hc2⟩
      refine ⟨1, 1025, rfl, rfl, RgOk.of_le (by decide) (by decide) (by decide) (by decide), fun r1 hr1 => ?_⟩
      have er : rgV 1 1025 = tens.map V.int := by
        unfold rgV tens
        rw [List.map_map]
        rfl
      rw [er]
      refine ⟨r1, tens, rfl, SqL.of upd_same, tens_facts.1, (by rw [tens_facts.2.1]; decide), tens_facts.2.2, fun no => absurd right_tens (no _), fun rz Rz q1 G1 hq1 t1 e1 => ?_⟩
      obtain rfl := right_uniq Rz right_tens
      refine ⟨10, 6, rfl, rfl, ⟨by decide, by decide, by decide⟩, 10, 6, rfl, rfl, ⟨by decide, by decide, by decide⟩, _, 1, rfl, rfl, by show 4 ≤ _; omega, fun r2 hr2 => ?_⟩
      have u1 := same_new (o := .lst [.int (10 ^ Int.toNat 6), .int 2, .int (10 ^ Int.toNat 6 - 1), .int 1]) hr2
      refine ⟨r2, [1000000, 2, 999999, 1], rfl, SqL.of upd_same, (by decide), (by decide), (by decide), fun no => absurd right_two (no _), fun rz Rz q2 G2 hq2 t2 e2 => ?_⟩
      obtain rfl := right_uniq Rz right_two
      refine ⟨by show 2 ≤ _; omega, fun r3 hr3 => ?_⟩
      have u2 := same_new (o := .lst [.int 1000, .int 1]) hr3
      refine ⟨r3, [1000, 1], rfl, SqL.of upd_same, (by decide), (by decide), (by decide), fun no => absurd right_one1 (no _), fun rz Rz q3 G3 hq3 t3 e3 => ?_⟩
      obtain rfl := right_uniq Rz right_one1
      have e2 := (u2.trans t3) _ _ e2
      have e1 := ((u1.trans t2).trans (u2.trans t3)) _ _ e1
      clear u1 u2 t1 t2 t3 hr1 hr2 hr3 hq1 hq2 hq3
      refine ⟨by show 3 ≤ _; omega, fun fx hfx => ?_⟩
      have u3 := same_new (o := .lst [.ref q1, .ref q2, .ref q3]) hfx
      have gfx : (upd G3 fx (.lst [.ref q1, .ref q2, .ref q3])) fx = some (.lst [.ref q1, .ref q2, .ref q3]) := upd_same
      have e1 := u3 _ _ e1
      have e2 := u3 _ _ e2
      have e3 := u3 _ _ e3
      have n1 : q1 ≠ fx := ne_of_none (by assumption) hfx
      have n2 : q2 ≠ fx := ne_of_none (by assumption) hfx
      have n3 : q3 ≠ fx := ne_of_none (by assumption) hfx
      generalize upd G3 fx (.lst [.ref q1, .ref q2, .ref q3]) = G4 at gfx e1 e2 e3 ⊢
      refine ⟨_, rfl, .inl ⟨rfl, _, SqL.of gfx⟩, 10, 6, rfl, rfl, ⟨by decide, by decide, by decide⟩, by show 5 ≤ _; omega, fun r4 hr4 => ?_⟩
      have u4 := same_new (o := .lst [.int 2, .int 1, .int 500001, .int 500000, .int (10 ^ Int.toNat 6)]) hr4
      refine ⟨r4, [2, 1, 500001, 500000, 1000000], rfl, SqL.of upd_same, (by decide), (by decide), (by decide), fun no => absurd right_big (no _), fun rz Rz q4 G5 hq4 t4 e4 => ?_⟩
      obtain rfl := right_uniq Rz right_big
      have z4 := u4.trans t4
      have n4 : q4 ≠ fx := (ne_of_none (u4 _ _ gfx) hq4).symm
      refine ⟨fx, _, _, rfl, rfl, z4 _ _ gfx, by show 3 < _; omega, ?_⟩
      have gf5 : (upd G5 fx (.lst ([.ref q1, .ref q2, .ref q3] ++ [.ref q4]))) fx = some (.lst [.ref q1, .ref q2, .ref q3, .ref q4]) := upd_same
      have k1 : (upd G5 fx (.lst ([.ref q1, .ref q2, .ref q3] ++ [.ref q4]))) q1 = some (.lst ((List.replicate 10 (2 : Int)).map V.int)) := by rw [upd_ne n1]; exact z4 _ _ e1
      have k2 : (upd G5 fx (.lst ([.ref q1, .ref q2, .ref q3] ++ [.ref q4]))) q2 = some (.lst (([2, 500000]).map V.int)) := by rw [upd_ne n2]; exact z4 _ _ e2
      have k3 : (upd G5 fx (.lst ([.ref q1, .ref q2, .ref q3] ++ [.ref q4]))) q3 = some (.lst (([1000]).map V.int)) := by rw [upd_ne n3]; exact z4 _ _ e3
      have k4 : (upd G5 fx (.lst ([.ref q1, .ref q2, .ref q3] ++ [.ref q4]))) q4 = some (.lst (([500000, 2]).map V.int)) := by rw [upd_ne n4]; exact e4
      generalize upd G5 fx (.lst ([.ref q1, .ref q2, .ref q3] ++ [.ref q4])) = G6 at gf5 k1 k2 k3 k4 ⊢
      refine ⟨_, rfl, by show 1 ≤ _; omega, fun a1 ha1 => ⟨a1, 10, _, rfl, rfl, upd_same, by decide, by decide, by show 1 * 10 ≤ _; omega, fun a2 ha2 => ⟨by show 2 ≤ _; omega, fun a3 ha3 => ⟨by show 1 ≤ _; omega, fun a4 ha4 => ⟨by show 2 ≤ _; omega, fun a5 ha5 => ⟨by show 4 ≤ _; omega, fun a6 ha6 => ?_⟩⟩⟩⟩⟩⟩
      have v1 := same_new (o := .lst [.int 2]) ha1
      have v2 := same_new (o := .lst (List.replicate (Int.toNat 10) [V.int 2]).flatten) ha2
      have v3 := same_new (o := .lst [.int 2, .int 500000]) ha3
      have v4 := same_new (o := .lst [.int 1000]) ha4
      have v5 := same_new (o := .lst [.int 500000, .int 2]) ha5
      have v6 := same_new (o := .lst [.ref a2, .ref a3, .ref a4, .ref a5]) ha6
      have w0 := ((v1.trans v2).trans (v3.trans v4)).trans (v5.trans v6)
      refine ⟨.ref fx, .ref a6, .list [.list ((List.replicate 10 (2 : Int)).map PyData.int), .list ([2, 500000].map PyData.int), .list ([1000].map PyData.int), .list ([500000, 2].map PyData.int)], rfl,
        .lst (SqL.of (w0 _ _ gf5)) (.cons (.lst (SqL.of (w0 _ _ k1)) (dp_ints _)) (.cons (.lst (SqL.of (w0 _ _ k2)) (dp_ints _)) (.cons (.lst (SqL.of (w0 _ _ k3)) (dp_ints _)) (.cons (.lst (SqL.of (w0 _ _ k4)) (dp_ints _)) .nil)))),
        .lst (SqL.of upd_same) (.cons (.lst (xs := (List.replicate 10 (2 : Int)).map V.int) (SqL.of ((v3.trans v4).trans (v5.trans v6) _ _ upd_same)) (dp_ints _)) (.cons (.lst (xs := [2, 500000].map V.int) (SqL.of (v4.trans (v5.trans v6) _ _ upd_same)) (dp_ints _)) (.cons (.lst (xs := [1000].map V.int) (SqL.of (v5.trans v6 _ _ upd_same)) (dp_ints _)) (.cons (.lst (xs := [500000, 2].map V.int) (SqL.of (v6 _ _ upd_same)) (dp_ints _)) .nil)))),
        ld4 (by decide) (by decide) (by decide) (by decide), dep4 _ _ _ _, fun G7 s7 => ⟨_, rfl, iteF ?_⟩⟩
      refine ⟨by show 5 ≤ _; omega, fun b1 hb1 => ?_⟩
      refine ⟨b1, [1, 2, 3, 4, 6], rfl, SqL.of upd_same, (by decide), (by decide), (by decide), fun no => absurd right_32 (no _), fun rz Rz q5 G8 hq5 t5 e5 => ?_⟩
      obtain rfl := right_uniq Rz right_32
      refine ⟨by show 2 ≤ _; omega, fun b2 hb2 => ⟨_, _, .lst (SqL.of (same_new hb2 _ _ e5)) (dp_ints _), .lst (xs := [3, 2].map V.int) (SqL.of upd_same) (dp_ints _), shaped_ints _, shaped_ints _, _, rfl, ?_⟩⟩
      rw [eqv_ints, decide_eq_true rfl]
      refine iteT ?_
      refine ⟨by show 1 ≤ _; omega, fun b3 hb3 => ?_⟩
      refine ⟨b3, [1], rfl, SqL.of upd_same, (by decide), (by decide), (by decide), fun no => absurd ((right_one []).mpr rfl) (no _), fun rz Rz q6 G9 hq6 t6 e6 => ?_⟩
      obtain rfl := right_uniq Rz ((right_one []).mpr rfl)
      refine ⟨Nat.zero_le _, fun b4 hb4 => ⟨_, _, .lst (SqL.of (same_new hb4 _ _ e6)) (dp_ints _), .lst (xs := [].map V.int) (SqL.of upd_same) (dp_ints _), shaped_ints _, shaped_ints _, _, rfl, ?_⟩⟩
      rw [eqv_ints, decide_eq_true rfl]
      refine iteT ?_
      refine ⟨by show 2 ≤ _; omega, fun b5 hb5 => ?_⟩
      refine ⟨b5, [3, 1], rfl, SqL.of upd_same, (by decide), (by decide), (by decide), fun no => absurd right_3 (no _), fun rz Rz q7 G10 hq7 t7 e7 => ?_⟩
      obtain rfl := right_uniq Rz right_3
      refine ⟨by show 1 ≤ _; omega, fun b6 hb6 => ⟨_, _, .lst (SqL.of (same_new hb6 _ _ e7)) (dp_ints _), .lst (xs := [3].map V.int) (SqL.of upd_same) (dp_ints _), shaped_ints _, shaped_ints _, ?_⟩⟩
      rw [eqv_ints, decide_eq_true rfl]
      exact q _
end
end Sq

set_option Elab.async false
set_option linter.all false
set_option maxRecDepth 100000
set_option maxHeartbeats 4000000
namespace Sq
open PySem PySem.Spec PyProof.Rows L2
theorem all_mk {l : PySem.W.OpenLaw} {w : World} {K : PySem.W.Frag} {h : Heap} {mg : Str → Option Value} {fa : Addr} (X : K.In h) (G : h.Ns mainGlobals mg) (hfa : mg "law" = some (.ref fa))
    {f_manyforone : Addr} {od_manyforone an_manyforone : Option Addr} {sl_manyforone : Array (Option Value)} {oc_manyforone kV_manyforone dc_manyforone pm_manyforone cd_manyforone ct_manyforone : Value}
    (a_manyforone : PySem.W.nsIn K mainGlobals "many_for_one" = some (some (.ref f_manyforone)))
    (l_manyforone : K.lookup f_manyforone = some ⟨oc_manyforone, od_manyforone, .func (PySem.W.fnOf "many_for_one" "many_for_one" (defArgs s_manyforone) (defBody s_manyforone) (defScope s_manyforone) .none kV_manyforone dc_manyforone pm_manyforone an_manyforone cd_manyforone ct_manyforone), sl_manyforone⟩)
    (c_manyforone : PySem.W.codeIn K cd_manyforone "many_for_one" = true) (k_manyforone : PySem.W.keepIn K (.ref f_manyforone) = true)
    {f_lengthafterone : Addr} {od_lengthafterone an_lengthafterone : Option Addr} {sl_lengthafterone : Array (Option Value)} {oc_lengthafterone kV_lengthafterone dc_lengthafterone pm_lengthafterone cd_lengthafterone ct_lengthafterone : Value}
    (a_lengthafterone : PySem.W.nsIn K mainGlobals "length_after_one" = some (some (.ref f_lengthafterone)))
    (l_lengthafterone : K.lookup f_lengthafterone = some ⟨oc_lengthafterone, od_lengthafterone, .func (PySem.W.fnOf "length_after_one" "length_after_one" (defArgs s_lengthafterone) (defBody s_lengthafterone) (defScope s_lengthafterone) .none kV_lengthafterone dc_lengthafterone pm_lengthafterone an_lengthafterone cd_lengthafterone ct_lengthafterone), sl_lengthafterone⟩)
    (c_lengthafterone : PySem.W.codeIn K cd_lengthafterone "length_after_one" = true) (k_lengthafterone : PySem.W.keepIn K (.ref f_lengthafterone) = true)
    {f_listof : Addr} {od_listof an_listof : Option Addr} {sl_listof : Array (Option Value)} {oc_listof kV_listof dc_listof pm_listof cd_listof ct_listof : Value}
    (a_listof : PySem.W.nsIn K mainGlobals "list_of" = some (some (.ref f_listof)))
    (l_listof : K.lookup f_listof = some ⟨oc_listof, od_listof, .func (PySem.W.fnOf "list_of" "list_of" (defArgs s_listof) (defBody s_listof) (defScope s_listof) .none kV_listof dc_listof pm_listof an_listof cd_listof ct_listof), sl_listof⟩)
    (c_listof : PySem.W.codeIn K cd_listof "list_of" = true) (k_listof : PySem.W.keepIn K (.ref f_listof) = true)
    {f_lawsource : Addr} {od_lawsource an_lawsource : Option Addr} {sl_lawsource : Array (Option Value)} {oc_lawsource kV_lawsource dc_lawsource pm_lawsource cd_lawsource ct_lawsource : Value}
    (a_lawsource : PySem.W.nsIn K mainGlobals "_law_source" = some (some (.ref f_lawsource)))
    (l_lawsource : K.lookup f_lawsource = some ⟨oc_lawsource, od_lawsource, .func (PySem.W.fnOf "_law_source" "_law_source" (defArgs s_lawsource) (defBody s_lawsource) (defScope s_lawsource) .none kV_lawsource dc_lawsource pm_lawsource an_lawsource cd_lawsource ct_lawsource), sl_lawsource⟩)
    (c_lawsource : PySem.W.codeIn K cd_lawsource "_law_source" = true) (k_lawsource : PySem.W.keepIn K (.ref f_lawsource) = true)
    {f_lawdraw : Addr} {od_lawdraw an_lawdraw : Option Addr} {sl_lawdraw : Array (Option Value)} {oc_lawdraw kV_lawdraw dc_lawdraw pm_lawdraw cd_lawdraw ct_lawdraw : Value}
    (a_lawdraw : PySem.W.nsIn K mainGlobals "_law_draw" = some (some (.ref f_lawdraw)))
    (l_lawdraw : K.lookup f_lawdraw = some ⟨oc_lawdraw, od_lawdraw, .func (PySem.W.fnOf "_law_draw" "_law_draw" (defArgs s_lawdraw) (defBody s_lawdraw) (defScope s_lawdraw) .none kV_lawdraw dc_lawdraw pm_lawdraw an_lawdraw cd_lawdraw ct_lawdraw), sl_lawdraw⟩)
    (c_lawdraw : PySem.W.codeIn K cd_lawdraw "_law_draw" = true) (k_lawdraw : PySem.W.keepIn K (.ref f_lawdraw) = true)
    {f_lawsame : Addr} {od_lawsame an_lawsame : Option Addr} {sl_lawsame : Array (Option Value)} {oc_lawsame kV_lawsame dc_lawsame pm_lawsame cd_lawsame ct_lawsame : Value}
    (a_lawsame : PySem.W.nsIn K mainGlobals "_law_same" = some (some (.ref f_lawsame)))
    (l_lawsame : K.lookup f_lawsame = some ⟨oc_lawsame, od_lawsame, .func (PySem.W.fnOf "_law_same" "_law_same" (defArgs s_lawsame) (defBody s_lawsame) (defScope s_lawsame) .none kV_lawsame dc_lawsame pm_lawsame an_lawsame cd_lawsame ct_lawsame), sl_lawsame⟩)
    (c_lawsame : PySem.W.codeIn K cd_lawsame "_law_same" = true) (k_lawsame : PySem.W.keepIn K (.ref f_lawsame) = true)
    {f_lawonce : Addr} {od_lawonce an_lawonce : Option Addr} {sl_lawonce : Array (Option Value)} {oc_lawonce kV_lawonce dc_lawonce pm_lawonce cd_lawonce ct_lawonce : Value}
    (a_lawonce : PySem.W.nsIn K mainGlobals "_law_once" = some (some (.ref f_lawonce)))
    (l_lawonce : K.lookup f_lawonce = some ⟨oc_lawonce, od_lawonce, .func (PySem.W.fnOf "_law_once" "_law_once" (defArgs s_lawonce) (defBody s_lawonce) (defScope s_lawonce) .none kV_lawonce dc_lawonce pm_lawonce an_lawonce cd_lawonce ct_lawonce), sl_lawonce⟩)
    (c_lawonce : PySem.W.codeIn K cd_lawonce "_law_once" = true) (k_lawonce : PySem.W.keepIn K (.ref f_lawonce) = true)
    {f_lawsqueezed : Addr} {od_lawsqueezed an_lawsqueezed : Option Addr} {sl_lawsqueezed : Array (Option Value)} {oc_lawsqueezed kV_lawsqueezed dc_lawsqueezed pm_lawsqueezed cd_lawsqueezed ct_lawsqueezed : Value}
    (a_lawsqueezed : PySem.W.nsIn K mainGlobals "_law_squeezed" = some (some (.ref f_lawsqueezed)))
    (l_lawsqueezed : K.lookup f_lawsqueezed = some ⟨oc_lawsqueezed, od_lawsqueezed, .func (PySem.W.fnOf "_law_squeezed" "_law_squeezed" (defArgs s_lawsqueezed) (defBody s_lawsqueezed) (defScope s_lawsqueezed) .none kV_lawsqueezed dc_lawsqueezed pm_lawsqueezed an_lawsqueezed cd_lawsqueezed ct_lawsqueezed), sl_lawsqueezed⟩)
    (c_lawsqueezed : PySem.W.codeIn K cd_lawsqueezed "_law_squeezed" = true) (k_lawsqueezed : PySem.W.keepIn K (.ref f_lawsqueezed) = true)
    {f_lawrow : Addr} {od_lawrow an_lawrow : Option Addr} {sl_lawrow : Array (Option Value)} {oc_lawrow kV_lawrow dc_lawrow pm_lawrow cd_lawrow ct_lawrow : Value}
    (a_lawrow : PySem.W.nsIn K mainGlobals "_law_row" = some (some (.ref f_lawrow)))
    (l_lawrow : K.lookup f_lawrow = some ⟨oc_lawrow, od_lawrow, .func (PySem.W.fnOf "_law_row" "_law_row" (defArgs s_lawrow) (defBody s_lawrow) (defScope s_lawrow) .none kV_lawrow dc_lawrow pm_lawrow an_lawrow cd_lawrow ct_lawrow), sl_lawrow⟩)
    (c_lawrow : PySem.W.codeIn K cd_lawrow "_law_row" = true) (k_lawrow : PySem.W.keepIn K (.ref f_lawrow) = true)
    {f_lawproducts : Addr} {od_lawproducts an_lawproducts : Option Addr} {sl_lawproducts : Array (Option Value)} {oc_lawproducts kV_lawproducts dc_lawproducts pm_lawproducts cd_lawproducts ct_lawproducts : Value}
    (a_lawproducts : PySem.W.nsIn K mainGlobals "_law_products" = some (some (.ref f_lawproducts)))
    (l_lawproducts : K.lookup f_lawproducts = some ⟨oc_lawproducts, od_lawproducts, .func (PySem.W.fnOf "_law_products" "_law_products" (defArgs s_lawproducts) (defBody s_lawproducts) (defScope s_lawproducts) .none kV_lawproducts dc_lawproducts pm_lawproducts an_lawproducts cd_lawproducts ct_lawproducts), sl_lawproducts⟩)
    (c_lawproducts : PySem.W.codeIn K cd_lawproducts "_law_products" = true) (k_lawproducts : PySem.W.keepIn K (.ref f_lawproducts) = true)
    {f_lawsingles : Addr} {od_lawsingles an_lawsingles : Option Addr} {sl_lawsingles : Array (Option Value)} {oc_lawsingles kV_lawsingles dc_lawsingles pm_lawsingles cd_lawsingles ct_lawsingles : Value}
    (a_lawsingles : PySem.W.nsIn K mainGlobals "_law_singles" = some (some (.ref f_lawsingles)))
    (l_lawsingles : K.lookup f_lawsingles = some ⟨oc_lawsingles, od_lawsingles, .func (PySem.W.fnOf "_law_singles" "_law_singles" (defArgs s_lawsingles) (defBody s_lawsingles) (defScope s_lawsingles) .none kV_lawsingles dc_lawsingles pm_lawsingles an_lawsingles cd_lawsingles ct_lawsingles), sl_lawsingles⟩)
    (c_lawsingles : PySem.W.codeIn K cd_lawsingles "_law_singles" = true) (k_lawsingles : PySem.W.keepIn K (.ref f_lawsingles) = true)
    {f_lawshuffled : Addr} {od_lawshuffled an_lawshuffled : Option Addr} {sl_lawshuffled : Array (Option Value)} {oc_lawshuffled kV_lawshuffled dc_lawshuffled pm_lawshuffled cd_lawshuffled ct_lawshuffled : Value}
    (a_lawshuffled : PySem.W.nsIn K mainGlobals "_law_shuffled" = some (some (.ref f_lawshuffled)))
    (l_lawshuffled : K.lookup f_lawshuffled = some ⟨oc_lawshuffled, od_lawshuffled, .func (PySem.W.fnOf "_law_shuffled" "_law_shuffled" (defArgs s_lawshuffled) (defBody s_lawshuffled) (defScope s_lawshuffled) .none kV_lawshuffled dc_lawshuffled pm_lawshuffled an_lawshuffled cd_lawshuffled ct_lawshuffled), sl_lawshuffled⟩)
    (c_lawshuffled : PySem.W.codeIn K cd_lawshuffled "_law_shuffled" = true) (k_lawshuffled : PySem.W.keepIn K (.ref f_lawshuffled) = true)
    {f_lawdue : Addr} {od_lawdue an_lawdue : Option Addr} {sl_lawdue : Array (Option Value)} {oc_lawdue kV_lawdue dc_lawdue pm_lawdue cd_lawdue ct_lawdue : Value}
    (a_lawdue : PySem.W.nsIn K mainGlobals "_law_due" = some (some (.ref f_lawdue)))
    (l_lawdue : K.lookup f_lawdue = some ⟨oc_lawdue, od_lawdue, .func (PySem.W.fnOf "_law_due" "_law_due" (defArgs s_lawdue) (defBody s_lawdue) (defScope s_lawdue) .none kV_lawdue dc_lawdue pm_lawdue an_lawdue cd_lawdue ct_lawdue), sl_lawdue⟩)
    (c_lawdue : PySem.W.codeIn K cd_lawdue "_law_due" = true) (k_lawdue : PySem.W.keepIn K (.ref f_lawdue) = true)
    {f_lawgreatright : Addr} {od_lawgreatright an_lawgreatright : Option Addr} {sl_lawgreatright : Array (Option Value)} {oc_lawgreatright kV_lawgreatright dc_lawgreatright pm_lawgreatright cd_lawgreatright ct_lawgreatright : Value}
    (a_lawgreatright : PySem.W.nsIn K mainGlobals "_law_great_right" = some (some (.ref f_lawgreatright)))
    (l_lawgreatright : K.lookup f_lawgreatright = some ⟨oc_lawgreatright, od_lawgreatright, .func (PySem.W.fnOf "_law_great_right" "_law_great_right" (defArgs s_lawgreatright) (defBody s_lawgreatright) (defScope s_lawgreatright) .none kV_lawgreatright dc_lawgreatright pm_lawgreatright an_lawgreatright cd_lawgreatright ct_lawgreatright), sl_lawgreatright⟩)
    (c_lawgreatright : PySem.W.codeIn K cd_lawgreatright "_law_great_right" = true) (k_lawgreatright : PySem.W.keepIn K (.ref f_lawgreatright) = true)
    {f_lawdueruns : Addr} {od_lawdueruns an_lawdueruns : Option Addr} {sl_lawdueruns : Array (Option Value)} {oc_lawdueruns kV_lawdueruns dc_lawdueruns pm_lawdueruns cd_lawdueruns ct_lawdueruns : Value}
    (a_lawdueruns : PySem.W.nsIn K mainGlobals "_law_due_runs" = some (some (.ref f_lawdueruns)))
    (l_lawdueruns : K.lookup f_lawdueruns = some ⟨oc_lawdueruns, od_lawdueruns, .func (PySem.W.fnOf "_law_due_runs" "_law_due_runs" (defArgs s_lawdueruns) (defBody s_lawdueruns) (defScope s_lawdueruns) .none kV_lawdueruns dc_lawdueruns pm_lawdueruns an_lawdueruns cd_lawdueruns ct_lawdueruns), sl_lawdueruns⟩)
    (c_lawdueruns : PySem.W.codeIn K cd_lawdueruns "_law_due_runs" = true) (k_lawdueruns : PySem.W.keepIn K (.ref f_lawdueruns) = true)
    {f_law : Addr} {od_law an_law : Option Addr} {sl_law : Array (Option Value)} {oc_law kV_law dc_law pm_law cd_law ct_law : Value}
    (a_law : PySem.W.nsIn K mainGlobals "law" = some (some (.ref f_law)))
    (l_law : K.lookup f_law = some ⟨oc_law, od_law, .func (PySem.W.fnOf "law" "law" (defArgs s_law) (defBody s_law) (defScope s_law) .none kV_law dc_law pm_law an_law cd_law ct_law), sl_law⟩)
    (c_law : PySem.W.codeIn K cd_law "law" = true) (k_law : PySem.W.keepIn K (.ref f_law) = true)
    (z_len : PySem.W.nsIn K mainGlobals "len" = some none)
    (z_min : PySem.W.nsIn K mainGlobals "min" = some none)
    (z_max : PySem.W.nsIn K mainGlobals "max" = some none)
    (z_abs : PySem.W.nsIn K mainGlobals "abs" = some none)
    (z_range : PySem.W.nsIn K mainGlobals "range" = some none)
    (z_isinstance : PySem.W.nsIn K mainGlobals "isinstance" = some none)
    (z_repr : PySem.W.nsIn K mainGlobals "repr" = some none)
    (z_enumerate : PySem.W.nsIn K mainGlobals "enumerate" = some none)
    (z_reversed : PySem.W.nsIn K mainGlobals "reversed" = some none)
    (z_sorted : PySem.W.nsIn K mainGlobals "sorted" = some none)
    (z_bool : PySem.W.nsIn K mainGlobals "bool" = some none)
    (z_int : PySem.W.nsIn K mainGlobals "int" = some none)
    (z_str : PySem.W.nsIn K mainGlobals "str" = some none)
    (z_list : PySem.W.nsIn K mainGlobals "list" = some none)
    (z_tuple : PySem.W.nsIn K mainGlobals "tuple" = some none)
    (z_set : PySem.W.nsIn K mainGlobals "set" = some none)
    (z_sum : PySem.W.nsIn K mainGlobals "sum" = some none)
    (z_zip : PySem.W.nsIn K mainGlobals "zip" = some none)
    (z_all : PySem.W.nsIn K mainGlobals "all" = some none)
    (z_any : PySem.W.nsIn K mainGlobals "any" = some none)
    (z_ValueError : PySem.W.nsIn K mainGlobals "ValueError" = some none)
    (z_divmod : PySem.W.nsIn K mainGlobals "divmod" = some none)
    : ∃ fd : FuncData, (∀ (s : Shared) (v : Value), BindsTo s fd ⟨[v], []⟩ [("script", v)]) ∧ ∀ base : Heap, K.In base → base.Ns mainGlobals mg → Top l.prog w K mg base 8 fa fd "script" (spLaw K) := by
  have e := hfa.symm.trans (PySem.W.mg_of X G a_law)
  cases e
  have B : Bi mg := ⟨PySem.W.mg_none_of X G z_len, PySem.W.mg_none_of X G z_min, PySem.W.mg_none_of X G z_max, PySem.W.mg_none_of X G z_abs, PySem.W.mg_none_of X G z_range, PySem.W.mg_none_of X G z_isinstance, PySem.W.mg_none_of X G z_repr, PySem.W.mg_none_of X G z_enumerate, PySem.W.mg_none_of X G z_reversed, PySem.W.mg_none_of X G z_sorted, PySem.W.mg_none_of X G z_bool, PySem.W.mg_none_of X G z_int, PySem.W.mg_none_of X G z_str, PySem.W.mg_none_of X G z_list, PySem.W.mg_none_of X G z_tuple, PySem.W.mg_none_of X G z_set, PySem.W.mg_none_of X G z_sum, PySem.W.mg_none_of X G z_zip, PySem.W.mg_none_of X G z_all, PySem.W.mg_none_of X G z_any, PySem.W.mg_none_of X G z_ValueError, PySem.W.mg_none_of X G z_divmod⟩
  have F_manyforone := fun_mk (st := s_manyforone) l_manyforone c_manyforone k_manyforone
  have b_manyforone := F_manyforone.binds (ps := ["length", "number"]) fun _ _ _ _ _ _ us hl => match us, hl with | [_, _], _ => rfl
  have g_manyforone := PySem.W.mg_of X G a_manyforone
  have F_lengthafterone := fun_mk (st := s_lengthafterone) l_lengthafterone c_lengthafterone k_lengthafterone
  have b_lengthafterone := F_lengthafterone.binds (ps := ["length", "number"]) fun _ _ _ _ _ _ us hl => match us, hl with | [_, _], _ => rfl
  have g_lengthafterone := PySem.W.mg_of X G a_lengthafterone
  have F_listof := fun_mk (st := s_listof) l_listof c_listof k_listof
  have b_listof := F_listof.binds (ps := ["singles"]) fun _ _ _ _ _ _ us hl => match us, hl with | [_], _ => rfl
  have g_listof := PySem.W.mg_of X G a_listof
  have F_lawsource := fun_mk (st := s_lawsource) l_lawsource c_lawsource k_lawsource
  have b_lawsource := F_lawsource.binds (ps := ["script"]) fun _ _ _ _ _ _ us hl => match us, hl with | [_], _ => rfl
  have g_lawsource := PySem.W.mg_of X G a_lawsource
  have F_lawdraw := fun_mk (st := s_lawdraw) l_lawdraw c_lawdraw k_lawdraw
  have b_lawdraw := F_lawdraw.binds (ps := ["source", "many"]) fun _ _ _ _ _ _ us hl => match us, hl with | [_, _], _ => rfl
  have g_lawdraw := PySem.W.mg_of X G a_lawdraw
  have F_lawsame := fun_mk (st := s_lawsame) l_lawsame c_lawsame k_lawsame
  have b_lawsame := F_lawsame.binds (ps := ["found", "wanted"]) fun _ _ _ _ _ _ us hl => match us, hl with | [_, _], _ => rfl
  have g_lawsame := PySem.W.mg_of X G a_lawsame
  have F_lawonce := fun_mk (st := s_lawonce) l_lawonce c_lawonce k_lawonce
  have b_lawonce := F_lawonce.binds (ps := ["run", "one"]) fun _ _ _ _ _ _ us hl => match us, hl with | [_, _], _ => rfl
  have g_lawonce := PySem.W.mg_of X G a_lawonce
  have F_lawsqueezed := fun_mk (st := s_lawsqueezed) l_lawsqueezed c_lawsqueezed k_lawsqueezed
  have b_lawsqueezed := F_lawsqueezed.binds (ps := ["run", "row"]) fun _ _ _ _ _ _ us hl => match us, hl with | [_, _], _ => rfl
  have g_lawsqueezed := PySem.W.mg_of X G a_lawsqueezed
  have F_lawrow := fun_mk (st := s_lawrow) l_lawrow c_lawrow k_lawrow
  have b_lawrow := F_lawrow.binds (ps := ["source", "many", "wide"]) fun _ _ _ _ _ _ us hl => match us, hl with | [_, _, _], _ => rfl
  have g_lawrow := PySem.W.mg_of X G a_lawrow
  have F_lawproducts := fun_mk (st := s_lawproducts) l_lawproducts c_lawproducts k_lawproducts
  have b_lawproducts := F_lawproducts.binds (ps := ["top"]) fun _ _ _ _ _ _ us hl => match us, hl with | [_], _ => rfl
  have g_lawproducts := PySem.W.mg_of X G a_lawproducts
  have F_lawsingles := fun_mk (st := s_lawsingles) l_lawsingles c_lawsingles k_lawsingles
  have b_lawsingles := F_lawsingles.binds (ps := ["row", "top"]) fun _ _ _ _ _ _ us hl => match us, hl with | [_, _], _ => rfl
  have g_lawsingles := PySem.W.mg_of X G a_lawsingles
  have F_lawshuffled := fun_mk (st := s_lawshuffled) l_lawshuffled c_lawshuffled k_lawshuffled
  have b_lawshuffled := F_lawshuffled.binds (ps := ["source", "some"]) fun _ _ _ _ _ _ us hl => match us, hl with | [_, _], _ => rfl
  have g_lawshuffled := PySem.W.mg_of X G a_lawshuffled
  have F_lawdue := fun_mk (st := s_lawdue) l_lawdue c_lawdue k_lawdue
  have b_lawdue := F_lawdue.binds (ps := ["some"]) fun _ _ _ _ _ _ us hl => match us, hl with | [_], _ => rfl
  have g_lawdue := PySem.W.mg_of X G a_lawdue
  have F_lawgreatright := fun_mk (st := s_lawgreatright) l_lawgreatright c_lawgreatright k_lawgreatright
  have b_lawgreatright := F_lawgreatright.binds (ps := ["source"]) fun _ _ _ _ _ _ us hl => match us, hl with | [_], _ => rfl
  have g_lawgreatright := PySem.W.mg_of X G a_lawgreatright
  have F_lawdueruns := fun_mk (st := s_lawdueruns) l_lawdueruns c_lawdueruns k_lawdueruns
  have b_lawdueruns := F_lawdueruns.binds (ps := ["row"]) fun _ _ _ _ _ _ us hl => match us, hl with | [_], _ => rfl
  have g_lawdueruns := PySem.W.mg_of X G a_lawdueruns
  have F_law := fun_mk (st := s_law) l_law c_law k_law
  exact ⟨_, fun s v => .of_eq rfl, fun base _ _ => by
    have D_lengthafterone : Df l.prog w K mg base 1 "length_after_one" ["length", "number"] spOnceS := .mk' F_lengthafterone (ok_lengthafterone F_lengthafterone B) g_lengthafterone b_lengthafterone
    have D_manyforone : Df l.prog w K mg base 1 "many_for_one" ["length", "number"] spMany := .mk' F_manyforone (ok_manyforone F_manyforone B) g_manyforone b_manyforone
    have Y_listof : FnOk l.prog w K mg base CX0 2 f_listof _ ["singles"] (spListOf K) := ok_listof F_listof B D_lengthafterone D_manyforone
    have D_listof : Df l.prog w K mg base 2 "list_of" ["singles"] (spListOf K) := .mk' F_listof Y_listof g_listof b_listof
    have K_listof : Dk l.prog w K mg base 2 "list_of" ["singles"] ["singles"] (fun _ zs => zs) (spListOf K) := ⟨f_listof, _, _, Y_listof, g_listof, k_listof, kb_listof F_listof⟩
    have D_lawsource : Df l.prog w K mg base 1 "_law_source" ["script"] (spSource K) := .mk' F_lawsource (ok_lawsource F_lawsource B) g_lawsource b_lawsource
    have D_lawdraw : Df l.prog w K mg base 1 "_law_draw" ["source", "many"] spDraw := .mk' F_lawdraw (ok_lawdraw F_lawdraw) g_lawdraw b_lawdraw
    have D_lawsame : Df l.prog w K mg base 5 "_law_same" ["found", "wanted"] (spSame K 4) := .mk' F_lawsame (ok_lawsame F_lawsame B g_lawsame b_lawsame 4) g_lawsame b_lawsame
    have D_lawonce : Df l.prog w K mg base 1 "_law_once" ["run", "one"] spOnce := .mk' F_lawonce (ok_lawonce F_lawonce) g_lawonce b_lawonce
    have D_lawsqueezed : Df l.prog w K mg base 2 "_law_squeezed" ["run", "row"] (spSqz K) := .mk' F_lawsqueezed (ok_lawsqueezed F_lawsqueezed D_lawonce) g_lawsqueezed b_lawsqueezed
    have D_lawrow : Df l.prog w K mg base 2 "_law_row" ["source", "many", "wide"] spRow := .mk' F_lawrow (ok_lawrow F_lawrow B D_lawdraw) g_lawrow b_lawrow
    have D_lawproducts : Df l.prog w K mg base 1 "_law_products" ["top"] spProds := .mk' F_lawproducts (ok_lawproducts F_lawproducts B) g_lawproducts b_lawproducts
    have D_lawsingles : Df l.prog w K mg base 3 "_law_singles" ["row", "top"] (spSin K) := .mk' F_lawsingles (ok_lawsingles F_lawsingles B D_lawsqueezed) g_lawsingles b_lawsingles
    have D_lawshuffled : Df l.prog w K mg base 2 "_law_shuffled" ["source", "some"] (spShuf K) := .mk' F_lawshuffled (ok_lawshuffled F_lawshuffled B D_lawdraw) g_lawshuffled b_lawshuffled
    have D_lawdue : Df l.prog w K mg base 4 "_law_due" ["some"] (spDue K) := .mk' F_lawdue (ok_lawdue F_lawdue B D_lawproducts D_lawsingles) g_lawdue b_lawdue
    have D_lawdueruns : Df l.prog w K mg base 1 "_law_due_runs" ["row"] (spDueRuns K) := .mk' F_lawdueruns (ok_lawdueruns F_lawdueruns B) g_lawdueruns b_lawdueruns
    have D_lawgreatright : Df l.prog w K mg base 6 "_law_great_right" ["source"] spGreatRight := .mk' F_lawgreatright (ok_lawgreatright F_lawgreatright B D_lawdraw D_listof D_lawdueruns D_lawsame) g_lawgreatright b_lawgreatright
    exact ok_law F_law B D_lawsource D_lawdraw D_lawrow D_lawsingles D_lawshuffled D_listof K_listof D_lawsame D_lawgreatright D_lawdue⟩
end Sq
open PySem PySem.W PyProof.Rows
set_option maxRecDepth 100000 in
set_option maxHeartbeats 0 in
theorem PySem.Challenge.cw_squeezelists_k15_lists_read_back_holds : PySem.Challenge.rw_squeezelists_k15_lists_read_back.Holds := by
  w_on; o_law; k_head; (case hw => w_witness2)
  k_fill
  refine Sq.walkAt (l := PySem.Challenge.rw_squeezelists_k15_lists_read_back) (n := 63) (k := 8) (x := "script") (sp := fun w => Sq.spLaw _) rfl (by decide) rfl (fun w h Y => PySem.W.kIn_of Y) ?F (fun _ _ a ns hl _ hS => ⟨a, ns, rfl, hS, hl, fun _ => rfl⟩)
  case F =>
    intro w mg fa h KX G hmg
    refine' Sq.all_mk KX G hmg ?a_manyforone ?l_manyforone ?c_manyforone ?k_manyforone ?a_lengthafterone ?l_lengthafterone ?c_lengthafterone ?k_lengthafterone ?a_listof ?l_listof ?c_listof ?k_listof ?a_lawsource ?l_lawsource ?c_lawsource ?k_lawsource ?a_lawdraw ?l_lawdraw ?c_lawdraw ?k_lawdraw ?a_lawsame ?l_lawsame ?c_lawsame ?k_lawsame ?a_lawonce ?l_lawonce ?c_lawonce ?k_lawonce ?a_lawsqueezed ?l_lawsqueezed ?c_lawsqueezed ?k_lawsqueezed ?a_lawrow ?l_lawrow ?c_lawrow ?k_lawrow ?a_lawproducts ?l_lawproducts ?c_lawproducts ?k_lawproducts ?a_lawsingles ?l_lawsingles ?c_lawsingles ?k_lawsingles ?a_lawshuffled ?l_lawshuffled ?c_lawshuffled ?k_lawshuffled ?a_lawdue ?l_lawdue ?c_lawdue ?k_lawdue ?a_lawgreatright ?l_lawgreatright ?c_lawgreatright ?k_lawgreatright ?a_lawdueruns ?l_lawdueruns ?c_lawdueruns ?k_lawdueruns ?a_law ?l_law ?c_law ?k_law ?z_len ?z_min ?z_max ?z_abs ?z_range ?z_isinstance ?z_repr ?z_enumerate ?z_reversed ?z_sorted ?z_bool ?z_int ?z_str ?z_list ?z_tuple ?z_set ?z_sum ?z_zip ?z_all ?z_any ?z_ValueError ?z_divmod
    (case a_manyforone => k_is); (case l_manyforone => k_is); (case c_manyforone => k_is); (case k_manyforone => k_is); (case a_lengthafterone => k_is); (case l_lengthafterone => k_is); (case c_lengthafterone => k_is); (case k_lengthafterone => k_is); (case a_listof => k_is); (case l_listof => k_is); (case c_listof => k_is); (case k_listof => k_is); (case a_lawsource => k_is); (case l_lawsource => k_is); (case c_lawsource => k_is); (case k_lawsource => k_is); (case a_lawdraw => k_is); (case l_lawdraw => k_is); (case c_lawdraw => k_is); (case k_lawdraw => k_is); (case a_lawsame => k_is); (case l_lawsame => k_is); (case c_lawsame => k_is); (case k_lawsame => k_is); (case a_lawonce => k_is); (case l_lawonce => k_is); (case c_lawonce => k_is); (case k_lawonce => k_is); (case a_lawsqueezed => k_is); (case l_lawsqueezed => k_is); (case c_lawsqueezed => k_is); (case k_lawsqueezed => k_is); (case a_lawrow => k_is); (case l_lawrow => k_is); (case c_lawrow => k_is); (case k_lawrow => k_is); (case a_lawproducts => k_is); (case l_lawproducts => k_is); (case c_lawproducts => k_is); (case k_lawproducts => k_is); (case a_lawsingles => k_is); (case l_lawsingles => k_is); (case c_lawsingles => k_is); (case k_lawsingles => k_is); (case a_lawshuffled => k_is); (case l_lawshuffled => k_is); (case c_lawshuffled => k_is); (case k_lawshuffled => k_is); (case a_lawdue => k_is); (case l_lawdue => k_is); (case c_lawdue => k_is); (case k_lawdue => k_is); (case a_lawgreatright => k_is); (case l_lawgreatright => k_is); (case c_lawgreatright => k_is); (case k_lawgreatright => k_is); (case a_lawdueruns => k_is); (case l_lawdueruns => k_is); (case c_lawdueruns => k_is); (case k_lawdueruns => k_is); (case a_law => k_is); (case l_law => k_is); (case c_law => k_is); (case k_law => k_is); (case z_len => k_is); (case z_min => k_is); (case z_max => k_is); (case z_abs => k_is); (case z_range => k_is); (case z_isinstance => k_is); (case z_repr => k_is); (case z_enumerate => k_is); (case z_reversed => k_is); (case z_sorted => k_is); (case z_bool => k_is); (case z_int => k_is); (case z_str => k_is); (case z_list => k_is); (case z_tuple => k_is); (case z_set => k_is); (case z_sum => k_is); (case z_zip => k_is); (case z_all => k_is); (case z_any => k_is); (case z_ValueError => k_is); (case z_divmod => k_is)


