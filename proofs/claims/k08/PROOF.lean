import PyProof.Rows.All
import Wide.All
import OpenK.AllK
import Wide.FinOn
import HandS.ForMost
import HandS.IsInst
import HandS.Walk
import HandS.Defaults
import HandS.RaiseMore
import HandS.Wide
import HandS.GenBody
import HandS.GenYield
import PyProof.GenComp
import PyProof.ForAny
import PyProof.LongRange
import HandS.GenList
import KE.DataCmp
import HandS.Deep
import HandS.Style
import PySem.Challenge.RW_squeezelists_k08_great_best_lists
set_option Elab.async false
set_option linter.all false
set_option maxRecDepth 100000
set_option maxHeartbeats 2000000
/-! The layer for the laws: a def of the law run at the outermost call (where no repr is under way), repr of data, calls by keywords alone. -/
namespace Sq
open PySem PySem.Spec PyProof.Rows L2

/-! ### the law's own def, at one given surrounding -/
theorem fnAt {CX : CXT} {P : Program} {w : World} {K : PySem.W.Frag} {mg : Str → Option Value} {base : Heap} {k : Nat} {f : Addr} {nmF qualF : Str} {prm : Arguments} {bd : List Stmt} {scp : Scope}
    {dflt kwd docv pmv cdv ctv ocv : Value} {anv odv : Option Addr} {slv : Array (Option Value)} {names prs : List Str} {sp : Sp} {A : Around}
    (stands : K.lookup f = some ⟨ocv, odv, .func (PySem.W.fnOf nmF qualF prm bd scp dflt kwd docv pmv anv cdv ctv), slv⟩)
    (code : PySem.W.codeIn K cdv qualF = true) (sc : FnScope names prs scp)
    (count : ∀ vs H Q E, sp vs H Q E → vs.length = prs.length)
    (inner : ∀ (outer : List Env) (s : Shared) (H : Hp) (vs : List V) (Q : VK) (E : XK), Room k (A.deeper (envOfC qualF scp s.heap.objs.size f cdv)) → sp vs H Q E →
      ∃ t, PSs (cxOf CX P w K mg base names qualF scp f cdv A outer s H E) bd t ∧ t { nx := fun _ H' => Q .non H', rt := Q } (start names vs) H)
    {outer : List Env} {s : Shared} {H : Hp} {ag : Args} {us : List Value} {vs : List V} {Q : VK} {E : XK}
    (room : Room (k + 1) A) (entry : Env0 P w K mg base A outer s H)
    (bound : BindsTo s (PySem.W.fnOf nmF qualF prm bd scp dflt kwd docv pmv anv cdv ctv) ag (prs.zip us)) (rel : Vals vs us) (wish : sp vs H Q E) :
    codeAny (model P w) A (.call (.ref f) ag) (CR CX outer P w H s Q E) s := by
  have written : K.In s.heap := entry.mod.kin.keeps (fun b o e => (entry.bs b o e).1)
  have roomy : s.heap.NoLimit := entry.mod.nolimit.keeps (fun b o e => (entry.bs b o e).1)
  refine codeAny_call_function room.depth (written _ _ stands) rfl sc.co sc.gen rfl (PySem.W.codeRec_of written code) (bound _ _ _ _ ?_)
  refine wpAny_newFunctionEnv_cells sc.kind ?kinds ?body
  case kinds =>
    rintro ⟨n, v⟩ hn
    have inP := (List.of_mem_zip hn).1
    cases sc.par n inP with
    | inl q => exact Or.inl q
    | inr q => exact Or.inr ⟨q, PySem.W.cellsFrom_some _ _ _ (Or.inl q)⟩
  case body =>
    intro env eqn s1 fresh
    subst eqn
    refine ⟨roomy.keeps fresh.toInCall.keep, codeAny_func ?_⟩
    obtain ⟨t, steps, holds⟩ := inner outer s H vs Q E (room.deeper _) wish
    have inv := inv_start (CX := CX) (mg := mg) (base := base) (E := E) sc room.hd entry (count _ _ _ _ wish) rel fresh
    refine wpAny_mono (steps.run [] s1 (start names vs) H _ inv holds) ?_ (fun _ _ q => q)
    intro flow s' got
    cases flow with
    | ret u =>
      obtain ⟨v, σ', H', J, rv, q⟩ := got
      exact ⟨v, H', J.os, J.bare, J.base, J.hok, rv, q⟩
    | next =>
      obtain ⟨σ', H', J, q⟩ := got
      exact ⟨V.non, H', J.os, J.bare, J.base, J.hok, rfl, q⟩
    | brk => exact got.elim fun _ h => h.elim fun _ h => False.elim h.2
    | cont => exact got.elim fun _ h => h.elim fun _ h => False.elim h.2

/-- what the top's def promises at the outermost call alone -/
def Top (P : Program) (w : World) (K : PySem.W.Frag) (mg : Str → Option Value) (base : Heap) (k : Nat) (f : Addr) (fd : FuncData) (x : Str) (sp : Sp) : Prop :=
  ∀ (s : Shared) (H : Hp) (ag : Args) (u : Value) (v : V) (Q : VK), Env0 P w K mg base callerA [] s H → BindsTo s fd ag [(x, u)] → RelV v u → sp [v] H Q (fun _ _ _ => False) →
    codeAny (model P w) callerA (.call (.ref f) ag) (CR CX0 [] P w H s Q (fun _ _ _ => False)) s

theorem atTop {P : Program} {w : World} {K : PySem.W.Frag} {mg : Str → Option Value} {base : Heap} {k : Nat} {f : Addr} {fd : FuncData} {x y qual : Str} {st : Stmt} {names : List Str} {sp : Sp}
    (F : Fun K y qual st f fd) (sc : FnScope names [x] (defScope st)) (room : Room (k + 1) callerA) (count : ∀ vs H Q E, sp vs H Q E → vs.length = 1)
    (inner : ∀ (cdv : Value) (outer : List Env) (s : Shared) (H : Hp) (vs : List V) (Q : VK) (E : XK), Room k (callerA.deeper (envOfC qual (defScope st) s.heap.objs.size f cdv)) → sp vs H Q E →
      ∃ t, PSs (cxOf CX0 P w K mg base names qual (defScope st) f cdv callerA outer s H E).nox (defBody st) t ∧ t { nx := fun _ H' => Q .non H', rt := Q } (start names vs) H) :
    Top P w K mg base k f fd x sp := by
  intro s H ag u v Q e0 hb hv hs
  obtain ⟨oc, od, kV, doc, pm, an, cdv, ct, osl, rfl, lk, hcd⟩ := F.ex
  refine fnAt (us := [u]) (vs := [v]) lk hcd sc count (fun outer s' H' vs' Q' E' room' wish => ?_) room e0 hb (.cons hv .nil) hs
  obtain ⟨t, h, q⟩ := inner cdv outer s' H' vs' Q' E' room' wish
  exact ⟨t, h.nox, q⟩

/-- from the def's promise at the outermost call to the row's claim about that call -/
theorem lawAt {P : Program} {w : World} {K : PySem.W.Frag} {mg mb : Str → Option Value} {k : Nat} {fa a : Addr} {fd : FuncData} {x : Str} {sp : Sp} {s₁ : Shared} {cells : List Value} {nums : List Int}
    (inK : K.In s₁.heap) (nsM : s₁.heap.Ns mainGlobals mg) (nsB : s₁.heap.Ns builtinsNs mb) (boot : ∀ y : Str, y ≠ "__name__" → mb y = bootBuiltins y) (lim : s₁.heap.NoLimit) (gens : s₁.gens = #[])
    (script : s₁.heap.get? a = some { cls := .type "list", data := .seq cells.toArray }) (are : IntsAre cells nums) (few : nums.length ≤ sizeLine)
    (main : ∀ base : Heap, K.In base → base.Ns mainGlobals mg → Top P w K mg base k fa fd x sp) (binds : ∀ (s : Shared) (u : Value), BindsTo s fd ⟨[u], []⟩ [(x, u)])
    (told : ∀ H : Hp, Only H → SqL K H a (nums.map V.int) → sp [.ref a] H (fun v _ => v = .bl true) fun _ _ _ => False) :
    codeAny (model P w) callerA (.call (.ref fa) ⟨[.ref a], []⟩) (fun r s' => r = .ok (.ret (.bool true)) ∧ OldK s₁.heap s'.heap ∧ s'.os = s₁.os ∧ AllBare s'.gens) s₁ := by
  have rel := vals_ints are
  have same := are.length
  suffices goal : ∀ H : Hp, Only H → SqL K H a (nums.map V.int) → HOk P w H s₁.heap → (∀ b o, H b = some o → b = a ∧ K.lookup a = none) →
      codeAny (model P w) callerA (.call (.ref fa) ⟨[.ref a], []⟩) (fun r s' => r = .ok (.ret (.bool true)) ∧ OldK s₁.heap s'.heap ∧ s'.os = s₁.os ∧ AllBare s'.gens) s₁ by
    cases look : K.lookup a with
    | some o =>
      have here := inK a o look
      rw [script] at here
      cases here
      exact goal (fun _ => none) (fun _ => Or.inl rfl) (Or.inr ⟨_, cells.toArray, _, look, rfl, rfl, rfl, (by rw [List.size_toArray, same]; exact few), (by simpa using rel)⟩) (fun b u z => by cases (show (none : Option HO) = some u from z)) (fun b o z => by cases (show (none : Option HO) = some o from z))
    | none =>
      let Ha : Hp := fun b => if b = a then some (.frz { cls := .type "list", data := .seq cells.toArray } (.lst (nums.map V.int))) else none
      have at_a : Ha a = some (.frz { cls := .type "list", data := .seq cells.toArray } (.lst (nums.map V.int))) := if_pos rfl
      have off : ∀ b o, Ha b = some o → b = a := fun b o z => by
        by_cases hb : b = a
        · exact hb
        · rw [show Ha b = none from if_neg hb] at z
          cases z
      refine goal Ha (fun b => ?_) (Or.inl (Or.inr ⟨_, at_a⟩)) (fun b u z => ?_) (fun b o z => ⟨off b o z, look⟩)
      · by_cases hb : b = a
        · exact Or.inr ⟨_, _, if_pos hb⟩
        · exact Or.inl (if_neg hb)
      · obtain rfl := off b u z
        rw [at_a] at z
        cases z
        exact ⟨script, by rw [List.length_map]; exact few, cells, _, rel, script⟩
  intro H only seq hok apart
  have free : ∀ {b : Addr} {o : Obj}, s₁.heap.get? b = some o → (∀ u, H b = some u → False) → (hidT s₁.heap H).get? b = some o := fun {b o} e n =>
    hidT_get e (by
      cases q : H b with
      | none => rfl
      | some u => exact (n u q).elim)
  have nsH : ∀ {b : Addr} {m : Str → Option Value}, s₁.heap.Ns b m → (hidT s₁.heap H).Ns b m := by
    rintro b m ⟨o, es, ep, e, d, r⟩
    refine ⟨o, es, ep, free e fun u z => ?_, d, r⟩
    obtain ⟨rfl, _⟩ := apart b u z
    rw [script] at e
    cases e
    cases (show Data.seq cells.toArray _ = Data.dict es ep from d)
  have kH : K.In (hidT s₁.heap H) := fun b o e => free (inK b o e) fun u z => by
    obtain ⟨rfl, n⟩ := apart b u z
    rw [n] at e
    cases e
  have mod : Mod K mg (hidT s₁.heap H) := ⟨kH, nsH nsM, ⟨mb, nsH nsB, boot⟩, let ⟨mc, h1, h2⟩ := lim; ⟨mc, nsH h1, h2⟩⟩
  have entry : Env0 P w K mg (hidT s₁.heap H) callerA [] s₁ H :=
    ⟨rfl, mod, fun b o e => of_hidT e, Nat.le_of_eq (hidT_size _ _), trivial, fun b hb => absurd (show b ∈ ([] : List Addr) from hb) (by simp), hok, .of_eq gens⟩
  refine codeAny_mono (main _ kH (nsH nsM) s₁ H ⟨[.ref a], []⟩ (.ref a) (.ref a) _ entry (binds s₁ (.ref a)) rfl (told H only seq)) ?_
  intro r s' got
  match r, got with
  | .ok (.ret u), got =>
    obtain ⟨v, H', os, bare, un, hok', rv, q⟩ := got
    obtain rfl : v = .bl true := q
    obtain rfl : u = Value.bool true := rv
    refine ⟨rfl, OldK.of_keep fun b o e => ?_, os, bare⟩
    rcases only b with z | ⟨ob, xs, z⟩
    · exact un.keep b o e z (by intro y; exact absurd (show b ∈ ([] : List Addr) from y) (by simp)) (by simp)
    · obtain ⟨e1, _⟩ := hok b _ z
      obtain ⟨e2, _⟩ := hok' b _ (un.frzs b ob _ z)
      rw [e] at e1
      cases e1
      exact e2

/-- the goal that k_head leaves, from the law's promise at the outermost call -/
theorem walkAt {l : PySem.W.OpenLaw} {n k : Nat} {q : Program} {loose : List Str} {XP : (Str → Option Value) → Heap → Prop} {YP : World → Heap → Prop} {d : DefRec} {K : Params → PySem.W.Frag} {sp : World → Sp} {x : Str}
    (most : l.most = some n) (line : n ≤ sizeLine) (plain : d.params.defaults = []) (inK : ∀ (w : World) (h : Heap), YP w h → (K w.params).In h)
    (F : ∀ (w : World) (mg : Str → Option Value) (fa : Addr) (h : Heap), (K w.params).In h → h.Ns mainGlobals mg → mg d.name = some (.ref fa) →
      ∃ fd : FuncData, (∀ (s : Shared) (u : Value), BindsTo s fd ⟨[u], []⟩ [(x, u)]) ∧ ∀ base : Heap, (K w.params).In base → base.Ns mainGlobals mg → Top l.prog w (K w.params) mg base k fa fd x (sp w))
    (told : ∀ (w : World) (H : Hp) (a : Addr) (ns : List Int), ns.length ≤ n → Only H → SqL (K w.params) H a (ns.map V.int) → sp w [.ref a] H (fun v _ => v = .bl true) fun _ _ _ => False) :
    PySem.W.WalkO q loose XP YP l.row.toRowW d [] (fun f vs => PySem.call f vs) := by
  refine Att.attach_call most plain ?_
  intro w s₀ s₁ mg mb fa o pm cd doc a vs ns G Y ho hd hcd hmg hobj hints hlen hg
  obtain ⟨fd, hb, hF⟩ := F w mg fa _ (inK w _ Y) G.T.g hmg
  exact lawAt (inK w _ Y) G.T.g G.T.b G.T.builtins G.T.nolimit hg hobj hints (Nat.le_trans hlen line) hF hb fun H hO hS => told w H a ns hlen hO hS

/-! ### repr of data, where no repr is under way -/
def rReprD (K : PySem.W.Frag) : List V → Hp → VK → Prop := fun xs H Q => ∃ a d, xs = [.ref a] ∧ Dp K H (.ref a) d ∧ d.showable = true ∧ d.hasDict = false ∧ d.depth ≤ 40 ∧ d.shown.length ≤ sizeLine ∧ Q (.str d.shown) H
theorem call_reprD {X : Cx} (hg : X.A.guards = some []) (hu : X.A.units + 64 < cLine) : CallR X (.builtin "repr") (rReprD X.K) := by
  intro pins s σ H xs us Q I r h
  obtain ⟨a, d, rfl, hd, sh, nd, dep, sz, q⟩ := h
  obtain ⟨u, rfl, rv⟩ := vals1 r
  obtain rfl : u = Value.ref a := rv
  obtain ⟨as, rd⟩ := Dp.reads I d _ _ hd (show RelV (.ref a) (.ref a) from rfl)
  refine repr_of_reads' rd sh (by rw [nd]; exact fun z => nomatch z) hg (by omega) (fun b o e => e) (fun h' u tk keep => ?_) sz
  exact ⟨.str _, H, I.kept keep, ⟨_, rfl⟩, q⟩

/-! ### f(k = v, ..): keywords alone -/
section
variable {X : Cx} {CX : CXT} {k : Nat} {f : Addr} {fd : FuncData} {ps ks : List Str} {sp : Sp} {E : XK} {x : Str} {p pos : Pos} {kws : List Keyword} {tk : TA} {g : List Value → List Value → List Value} {gV : List V → List V → List V}
theorem pe_callK0 (F : FnOk X.prog X.w X.K X.mg X.base CX k f fd ps sp) (hr : Room k X.A) (hg : Gl X x) (hm : X.mg x = some (.ref f)) (hk : PySem.W.keepIn X.K (.ref f) = true) (hb : KBn X.K fd ps 0 ks g gV) (hx : Passes CX X E) (hkw : PK X kws tk)
    (hall : (backToKw pos (keywordEach kws X.env)).all (·.1.isSome) = true := by rfl) (hks : (backToKw pos (keywordEach kws X.env)).filterMap (·.1) = ks := by rfl) (hdb : (x == ("__debug__" : Str)) = false := by decide)
    (hpl : ((backTo pos (starEach [] X.env)).any (·.1) || (backToKw pos (keywordEach kws X.env)).any (·.1.isNone)) = false := by rfl) :
    PE X (.Call (.Name x p) [] kws pos) (tCallN 0 ks.length sp gV E tNil tk) := by
  refine ⟨fun pins s σ H Q I h => ?_⟩
  refine wpAny_Call_Name_kw (ld_glob I hg hm ?_ hdb)
  refine PySem.W.callWith_KW0 (h₀ := X.base) I.ok.mod.kin hk hall ?_ hpl
  refine thn (hkw.run pos pins s σ H _ I h) ?_
  rintro ws s2 ⟨zs, H2, I2, rz, l1, l2, q2⟩
  refine ⟨I2.kIn, ?_⟩
  rw [hks]
  exact run_fnN F hr hb hx I2 (.nil) rz l1 l2 q2
end
end Sq

namespace Sq
open PySem PySem.Spec PyProof.Rows L2
/-- what a caller wants of a def of the text: it stands at its name and keeps its promise -/
structure Df (P : Program) (w : World) (K : PySem.W.Frag) (mg : Str → Option Value) (base : Heap) (k : Nat) (x : Str) (ps : List Str) (sp : Sp) : Prop where
  ex : ∃ f fd, FnOk P w K mg base CX0 k f fd ps sp ∧ mg x = some (.ref f) ∧ PySem.W.keepIn K (.ref f) = true ∧ Binds K fd ps []
section
variable {X : Cx} {k : Nat} {ps : List Str} {sp : Sp} {x : Str} {p pos : Pos} {e : Expr} {es : List Expr} {t : TA}
theorem pe_callD (D : Df X.prog X.w X.K X.mg X.base k x ps sp) (hr : Room k X.A) (hg : Gl X x) (ha : PA X (e :: es) t) (hdb : (x == ("__debug__" : Str)) = false := by decide)
    (he : starEach (e :: es) X.env = (false, eval e X.env) :: starEach es X.env := by rfl) (hpl : (backTo pos (starEach es X.env)).any (·.1) = false := by rfl) :
    PE X (.Call (.Name x p) (e :: es) [] pos) (tCall sp [] E0 t) := by
  obtain ⟨f, fd, F, g, kp, b⟩ := D.ex
  exact pe_call F hr hg g kp b .nil pass0 ha hdb he hpl
end
section
variable {P : Program} {w : World} {K : PySem.W.Frag} {mg : Str → Option Value} {base : Heap}
/-- a def without defaults, from its place in the text and its promise -/
theorem Df.mk' {k : Nat} {x : Str} {st : Stmt} {ps : List Str} {sp : Sp} {f : Addr} {fd : FuncData} (F : Fun K x x st f fd) (G : FnOk P w K mg base CX0 k f fd ps sp) (g : mg x = some (.ref f)) (b : Binds K fd ps []) : Df P w K mg base k x ps sp :=
  ⟨⟨f, fd, G, g, F.kp, b⟩⟩
end
end Sq

namespace Sq
open PySem PySem.Spec PyProof.Rows L2
/-- a def with defaults, no error leaves it -/
theorem okD {P : Program} {w : World} {K : PySem.W.Frag} {mg : Str → Option Value} {base : Heap} {x qual : Str} {prm : Arguments} {bd : List Stmt} {scp : Scope} {dvs : List V} {kws : List (Str × V)} {f : Addr} {fd : FuncData} {names ps : List Str} {k : Nat} {sp : Sp}
    (F : FunD K x qual prm bd scp dvs kws f fd) (sc : FnScope names ps scp) (count : ∀ vs H Q E, sp vs H Q E → vs.length = ps.length)
    (inner : ∀ (cdv : Value) (A : Around) (outer : List Env) (s : Shared) (H : Hp) (vs : List V) (Q : VK) (E : XK), Room k (A.deeper (envOfC qual scp s.heap.objs.size f cdv)) → sp vs H Q E →
      ∃ t, PSs (cxOf CX0 P w K mg base names qual scp f cdv A outer s H E).nox bd t ∧ t { nx := fun _ H' => Q .non H', rt := Q } (start names vs) H) : FnOk P w K mg base CX0 (k + 1) f fd ps sp :=
  F.ok sc count fun cdv A outer s H vs Q E hr h => let ⟨t, a, b⟩ := inner cdv A outer s H vs Q E hr h; ⟨t, a.nox, b⟩

/-- the same as Df for a call that leaves the last ones to their defaults dvs -/
structure Dv (P : Program) (w : World) (K : PySem.W.Frag) (mg : Str → Option Value) (base : Heap) (k : Nat) (x : Str) (ps : List Str) (dvs : List V) (sp : Sp) : Prop where
  ex : ∃ f fd ds, FnOk P w K mg base CX0 k f fd ps sp ∧ mg x = some (.ref f) ∧ PySem.W.keepIn K (.ref f) = true ∧ Vals dvs ds ∧ Binds K fd ps ds
/-- .. by keywords alone -/
structure Dk (P : Program) (w : World) (K : PySem.W.Frag) (mg : Str → Option Value) (base : Heap) (k : Nat) (x : Str) (ps ks : List Str) (gV : List V → List V → List V) (sp : Sp) : Prop where
  ex : ∃ f fd g, FnOk P w K mg base CX0 k f fd ps sp ∧ mg x = some (.ref f) ∧ PySem.W.keepIn K (.ref f) = true ∧ KBn K fd ps 0 ks g gV
section
variable {X : Cx} {k : Nat} {ps ks : List Str} {sp : Sp} {x : Str} {p pos : Pos} {e : Expr} {es : List Expr} {t tk : TA} {dvs : List V} {gV : List V → List V → List V} {kws : List Keyword}
theorem pe_callV (D : Dv X.prog X.w X.K X.mg X.base k x ps dvs sp) (hr : Room k X.A) (hg : Gl X x) (ha : PA X (e :: es) t) (hdb : (x == ("__debug__" : Str)) = false := by decide)
    (he : starEach (e :: es) X.env = (false, eval e X.env) :: starEach es X.env := by rfl) (hpl : (backTo pos (starEach es X.env)).any (·.1) = false := by rfl) :
    PE X (.Call (.Name x p) (e :: es) [] pos) (tCall sp dvs E0 t) := by
  obtain ⟨f, fd, ds, F, g, kp, hd, b⟩ := D.ex
  exact pe_call F hr hg g kp b hd pass0 ha hdb he hpl
theorem pe_callKD (D : Dk X.prog X.w X.K X.mg X.base k x ps ks gV sp) (hr : Room k X.A) (hg : Gl X x) (hkw : PK X kws tk)
    (hall : (backToKw pos (keywordEach kws X.env)).all (·.1.isSome) = true := by rfl) (hks : (backToKw pos (keywordEach kws X.env)).filterMap (·.1) = ks := by rfl) (hdb : (x == ("__debug__" : Str)) = false := by decide)
    (hpl : ((backTo pos (starEach [] X.env)).any (·.1) || (backToKw pos (keywordEach kws X.env)).any (·.1.isNone)) = false := by rfl) :
    PE X (.Call (.Name x p) [] kws pos) (tCallN 0 ks.length sp gV E0 tNil tk) := by
  obtain ⟨f, fd, g, F, hm, kp, b⟩ := D.ex
  exact pe_callK0 F hr hg hm kp b pass0 hkw hall hks hdb hpl
end
theorem vals_nil {ds : List Value} (h : Vals [] ds) : ds = [] := by
  cases h
  rfl
end Sq

namespace Sq
open PySem PySem.Spec PyProof.Rows L2
theorem vals_rev : ∀ {zs : List V} {ws : List Value}, Vals zs ws → Vals zs.reverse ws.reverse
  | [], [], _ => .nil
  | _ :: _, _ :: _, .cons h t => by
    rw [List.reverse_cons, List.reverse_cons]
    exact (vals_rev t).append (.cons h .nil)
/-- keywords, where the def has defaults and no keyword-only parameters -/
theorem kbinds' {K : PySem.W.Frag} {x qual : Str} {prm : Arguments} {bd : List Stmt} {scp : Scope} {dvs : List V} {f : Addr} {fd : FuncData} {ps : List Str}
    (F : FunD K x qual prm bd scp dvs [] f fd) (n : Nat) (ks : List Str) (g : List Value → List Value → List Value) (gV : List V → List V → List V) (hd : dvs ≠ [])
    (rel : ∀ {vs : List V} {us : List Value} {zs : List V} {ws : List Value}, Vals vs us → Vals zs ws → Vals (gV vs zs) (g us ws))
    (h : ∀ (T : Addr) (kV doc pm : Value) (an : Option Addr) (cdv ct : Value) (us its ws : List Value), us.length = n → its.length = dvs.length → ws.length = ks.length →
      ∃ k, bindArgs (PySem.W.fnOf x qual prm bd scp (.ref T) kV doc pm an cdv ct) ⟨us, ks.zip ws⟩ = seqItems? (.ref T) >>= k ∧ k (some its.toArray) = pure (ps.zip (g us ws))) : KBn K fd ps n ks g gV := by
  obtain ⟨oc, od, dV, kV, doc, pm, an, cdv, ct, osl, rfl, lk, hcd, hD, hK⟩ := F.ex
  rcases hD with ⟨e, _⟩ | ⟨_, T, o, its, m, rfl, lT, oT, rT⟩
  · exact absurd e hd
  · refine ⟨fun s us ws X l1 l2 => ?_, rel⟩
    obtain ⟨k, e1, e2⟩ := h T kV doc pm an cdv ct us its ws l1 rT.length.symm l2
    refine BindsTo.of_looks fun M => ?_
    rw [e1]
    exact looks_items X lT oT (.of_pure e2)
end Sq

namespace Sq
open PySem PySem.Spec PyProof.Rows L2
/-- a test whose ways are told apart from what follows -/
theorem tell {c : TT} {σ : L2.St} {H : Hp} {Q : Bool → Hp → Prop} (T F : Hp → Prop) (h : ∀ Q' : Bool → Hp → Prop, (∀ H2, T H2 → Q' true H2) → (∀ H2, F H2 → Q' false H2) → c σ H Q') (hT : ∀ H2, T H2 → Q true H2) (hF : ∀ H2, F H2 → Q false H2) : c σ H Q := h Q hT hF
/-- a value that is told apart from what follows -/
theorem tellV {c : TE} {σ : L2.St} {H : Hp} {Q : VK} (T : V → Hp → Prop) (h : ∀ Q' : VK, (∀ v H2, T v H2 → Q' v H2) → c σ H Q') (hT : ∀ v H2, T v H2 → Q v H2) : c σ H Q := h Q hT
/-- a statement that goes on alone -/
theorem tellS {c : TS} {D : Ends} {σ : L2.St} {H : Hp} (T : L2.St → Hp → Prop) (h : ∀ N : L2.St → Hp → Prop, (∀ σ2 H2, T σ2 H2 → N σ2 H2) → c { D with nx := N } σ H) (hT : ∀ σ2 H2, T σ2 H2 → D.nx σ2 H2) : c D σ H := h D.nx hT
end Sq

set_option Elab.async false
set_option linter.all false
/-! Squeezing and reaches in plain Lean. -/
namespace Sq
def once (n k : Int) : Int := n / k + n % k
def sq (n : Int) (ks : List Int) : Int := ks.foldl once n
def rw1 (k R : Int) : Int := if k > R + 1 then R else (R + 3 - k) * k - 2
def rch (ks : List Int) (v : Int) : Int := ks.foldr rw1 v

theorem rw1_pos {k R : Int} (hk : 2 ≤ k) (hR : 1 ≤ R) : 1 ≤ rw1 k R := by
  unfold rw1
  split
  · exact hR
  · have h : 2 * 2 ≤ (R + 3 - k) * k := Int.mul_le_mul (by omega) hk (by omega) (by omega)
    omega

theorem once_small {k n : Int} (h0 : 0 ≤ n) (h : n < k) : once n k = n := by
  unfold once
  rw [Int.ediv_eq_zero_of_lt h0 h, Int.emod_eq_of_lt h0 h]
  omega

theorem once_nonneg {k n : Int} (hk : 2 ≤ k) (h0 : 0 ≤ n) : 0 ≤ once n k := by
  unfold once
  have h1 := Int.ediv_nonneg h0 (by omega : 0 ≤ k)
  have h2 := Int.emod_nonneg n (by omega : k ≠ 0)
  omega

theorem once_le {k R n : Int} (hk : 2 ≤ k) (hR : 1 ≤ R) (h0 : 0 ≤ n) (h : n ≤ rw1 k R) : once n k ≤ R := by
  unfold rw1 at h
  split at h
  · rename_i hg
    rw [once_small h0 (by omega)]
    exact h
  · rename_i hg
    unfold once
    have e := Int.mul_ediv_add_emod n k
    have r0 := Int.emod_nonneg n (by omega : k ≠ 0)
    have r1 := Int.emod_lt_of_pos n (by omega : 0 < k)
    generalize n / k = q at *
    generalize n % k = r at *
    by_cases c : q + r ≤ R
    · exact c
    · exfalso
      by_cases c2 : R + 3 - k ≤ q
      · have := Int.mul_le_mul_of_nonneg_left c2 (by omega : 0 ≤ k)
        rw [Int.mul_comm k (R + 3 - k)] at this
        omega
      · have c3 : q = R + 2 - k := by omega
        have c4 : r = k - 1 := by omega
        have e2 : k * (R + 2 - k) = (R + 3 - k) * k - k := by
          rw [show R + 2 - k = (R + 3 - k) - 1 by omega, Int.mul_sub, Int.mul_one, Int.mul_comm]
        rw [c3, e2] at e
        omega

theorem once_next {k R : Int} (hk : 2 ≤ k) (hR : 1 ≤ R) : once (rw1 k R + 1) k = R + 1 := by
  unfold rw1
  split
  · exact once_small (by omega) (by omega)
  · have e : (R + 3 - k) * k - 2 + 1 = (k - 1) + k * (R + 2 - k) := by
      rw [show R + 2 - k = (R + 3 - k) - 1 by omega, Int.mul_sub, Int.mul_one, Int.mul_comm k]
      omega
    unfold once
    rw [e, Int.add_mul_ediv_left _ _ (by omega : k ≠ 0), Int.add_mul_emod_self_left, Int.ediv_eq_zero_of_lt (by omega) (by omega), Int.emod_eq_of_lt (by omega) (by omega)]
    omega

theorem rch_pos : ∀ (ks : List Int) (v : Int), (∀ k ∈ ks, 2 ≤ k) → 1 ≤ v → 1 ≤ rch ks v
  | [], v, _, hv => hv
  | k :: ks, v, h, hv => rw1_pos (h k (List.mem_cons_self ..)) (rch_pos ks v (fun x hx => h x (List.mem_cons_of_mem _ hx)) hv)

theorem sq_le : ∀ (ks : List Int) (v n : Int), (∀ k ∈ ks, 2 ≤ k) → 1 ≤ v → 0 ≤ n → n ≤ rch ks v → sq n ks ≤ v
  | [], v, n, _, _, _, hn => hn
  | k :: ks, v, n, h, hv, h0, hn =>
    have hk := h k (List.mem_cons_self ..)
    have ht : ∀ x ∈ ks, 2 ≤ x := fun x hx => h x (List.mem_cons_of_mem _ hx)
    sq_le ks v (once n k) ht hv (once_nonneg hk h0) (once_le hk (rch_pos ks v ht hv) h0 hn)

theorem sq_next : ∀ (ks : List Int) (v : Int), (∀ k ∈ ks, 2 ≤ k) → 1 ≤ v → sq (rch ks v + 1) ks = v + 1
  | [], v, _, _ => rfl
  | k :: ks, v, h, hv => by
    have hk := h k (List.mem_cons_self ..)
    have ht : ∀ x ∈ ks, 2 ≤ x := fun x hx => h x (List.mem_cons_of_mem _ hx)
    show sq (once (rw1 k (rch ks v) + 1) k) ks = v + 1
    rw [once_next hk (rch_pos ks v ht hv)]
    exact sq_next ks v ht hv

theorem rch_mono {ks : List Int} {v u : Int} (h : ∀ k ∈ ks, 2 ≤ k) (hv : 1 ≤ v) (hu : v ≤ u) : rch ks v ≤ rch ks u := by
  by_cases c : rch ks v ≤ rch ks u
  · exact c
  · exfalso
    have p := rch_pos ks u h (by omega)
    have a := sq_le ks v (rch ks u + 1) h hv (by omega) (by omega)
    rw [sq_next ks u h (by omega)] at a
    omega

/-- the least run with more characters is found by trying -/
theorem sq_gt {ks : List Int} {v n : Int} (h : ∀ k ∈ ks, 2 ≤ k) (hv : 1 ≤ v) (h0 : 0 ≤ n) (h1 : n ≤ rch ks v + 1) (c : v < sq n ks) : n = rch ks v + 1 := by
  by_cases d : n ≤ rch ks v
  · have := sq_le ks v n h hv h0 d
    omega
  · omega
theorem sq_lt {ks : List Int} {v n : Int} (h : ∀ k ∈ ks, 2 ≤ k) (hv : 1 ≤ v) (h1 : n ≤ rch ks v + 1) (c : sq n ks ≤ v) : n ≤ rch ks v := by
  by_cases d : n ≤ rch ks v
  · exact d
  · have e : n = rch ks v + 1 := by omega
    rw [e, sq_next ks v h hv] at c
    omega
theorem sq_concat (n : Int) (ks : List Int) (k : Int) : sq n (ks ++ [k]) = once (sq n ks) k := by
  unfold sq
  rw [List.foldl_append]
  rfl
end Sq

set_option Elab.async false
set_option linter.all false
/-! The best replacements, in plain Lean. -/
namespace Sq
def low (R : Int) : Int := (R + 3) / 2
def high (R : Int) : Int := (R + 4) / 2
def bests (R : Int) : List Int := if low R = high R then [low R] else [low R, high R]
def grow (R : Int) : Int := rw1 (low R) R
def up : Nat → Int → Int
  | 0, v => v
  | n + 1, v => grow (up n v)

theorem low_ge {R : Int} (h : 1 ≤ R) : 2 ≤ low R := by unfold low; omega
theorem low_le {R : Int} (h : 1 ≤ R) : low R ≤ R + 1 := by unfold low; omega
theorem high_le {R : Int} (h : 1 ≤ R) : high R ≤ R + 2 := by unfold high; omega

theorem rw1_low {k R : Int} (hk : k ≤ R + 2) : rw1 k R = (R + 3 - k) * k - 2 := by
  unfold rw1
  split
  · have e : k = R + 2 := by omega
    subst e
    rw [show R + 3 - (R + 2) = 1 by omega, Int.one_mul]
    omega
  · rfl

/-- how far a replacement stands from the middle decides -/
theorem sq_gap (R k : Int) : 4 * ((R + 3 - k) * k) = (R + 3) * (R + 3) - (2 * k - (R + 3)) * (2 * k - (R + 3)) := by
  simp only [Int.sub_mul, Int.mul_sub, Int.add_mul, Int.mul_add]
  have h1 := Int.mul_comm k R
  have h2 : 2 * k * (2 * k) = 4 * (k * k) := by
    rw [Int.mul_assoc, ← Int.mul_assoc k 2 k, Int.mul_comm k 2, Int.mul_assoc 2 k k]
    omega
  have h3 : 2 * k * R = 2 * (k * R) := Int.mul_assoc ..
  have h4 : R * (2 * k) = 2 * (k * R) := by rw [Int.mul_comm R, Int.mul_assoc]
  rw [h2, h3, h4, h1]
  omega

theorem one_sq {d : Int} (h : d = 0 ∨ d = 1 ∨ d = -1) : d * d ≤ 1 := by rcases h with h | h | h <;> subst h <;> decide
theorem two_sq {d : Int} (h : 2 ≤ d ∨ d ≤ -2) : 4 ≤ d * d := by
  rcases h with h | h
  · exact Int.mul_le_mul h h (by omega) (by omega)
  · have := Int.mul_le_mul (a := 2) (b := 2) (c := -d) (d := -d) (by omega) (by omega) (by omega) (by omega)
    rw [Int.neg_mul_neg] at this
    exact this

theorem rw1_le_grow {k R : Int} (hk : 2 ≤ k) (hR : 1 ≤ R) : rw1 k R ≤ grow R ∧ (rw1 k R = grow R ↔ k ∈ bests R) := by
  have l1 := low_ge hR
  have l2 := low_le hR
  have g : grow R = (R + 3 - low R) * low R - 2 := rw1_low (by omega)
  have e1 := sq_gap R (low R)
  by_cases c : k ≤ R + 2
  · have e := sq_gap R k
    rw [g, rw1_low c]
    by_cases ev : R % 2 = 0
    · -- the middle lies between two
      have d1 : 2 * low R - (R + 3) = -1 := by unfold low; omega
      have ne : low R ≠ high R := by unfold low high; omega
      have mem : k ∈ bests R ↔ (k = low R ∨ k = high R) := by
        unfold bests
        rw [if_neg ne]
        simp
      rw [d1] at e1
      by_cases m : k = low R ∨ k = high R
      · have d2 : 2 * k - (R + 3) = -1 ∨ 2 * k - (R + 3) = 1 := by unfold low high at m; omega
        have e2 : (2 * k - (R + 3)) * (2 * k - (R + 3)) = 1 := by rcases d2 with d2 | d2 <;> rw [d2] <;> rfl
        rw [e2] at e
        exact ⟨by omega, fun _ => mem.mpr m, fun _ => by omega⟩
      · have d2 : 2 ≤ 2 * k - (R + 3) ∨ 2 * k - (R + 3) ≤ -2 := by unfold low high at m; omega
        have e2 := two_sq d2
        exact ⟨by omega, fun z => by omega, fun z => absurd (mem.mp z) m⟩
    · have d1 : 2 * low R - (R + 3) = 0 := by unfold low; omega
      have eq : low R = high R := by unfold low high; omega
      have mem : k ∈ bests R ↔ k = low R := by
        unfold bests
        rw [if_pos eq]
        simp
      rw [d1] at e1
      by_cases m : k = low R
      · subst m
        exact ⟨by omega, fun _ => mem.mpr rfl, fun _ => by omega⟩
      · have d2 : 2 ≤ 2 * k - (R + 3) ∨ 2 * k - (R + 3) ≤ -2 := by unfold low at m; omega
        have e2 := two_sq d2
        exact ⟨by omega, fun z => by omega, fun z => absurd (mem.mp z) m⟩
  · have e2 : rw1 k R = R := by
      unfold rw1
      rw [if_pos (by omega)]
    have e3 : R < grow R := by
      rw [g]
      have e4 : (R + 3 - 2) * 2 ≤ (R + 3 - low R) * low R := by
        have a := sq_gap R 2
        have b : (2 * low R - (R + 3)) * (2 * low R - (R + 3)) ≤ 1 := one_sq (by unfold low; omega)
        by_cases h1 : R = 1
        · subst h1
          decide
        · by_cases h2 : R = 2
          · subst h2; decide
          · have c2 : 1 ≤ (2 * 2 - (R + 3)) * (2 * 2 - (R + 3)) := by
              have := two_sq (d := 2 * 2 - (R + 3)) (by omega)
              omega
            omega
      omega
    refine ⟨by omega, fun z => by omega, fun z => ?_⟩
    exfalso
    have := high_le hR
    unfold bests at z
    split at z
    · have := List.mem_singleton.mp z
      omega
    · simp at z
      omega

theorem grow_gt {R : Int} (hR : 1 ≤ R) : R < grow R := by
  have a := (rw1_le_grow (k := 2) (R := R) (by omega) hR).1
  rw [rw1_low (by omega)] at a
  by_cases h : R = 1
  · subst h; decide
  · omega
theorem grow_pos {R : Int} (hR : 1 ≤ R) : 1 ≤ grow R := by have := grow_gt hR; omega
theorem rw1_lt {k R S : Int} (hk : 2 ≤ k) (hR : 1 ≤ R) (h : R < S) : rw1 k R < grow S := by
  have hS : 1 ≤ S := by omega
  by_cases c : k ≤ R + 1
  · have a := (rw1_le_grow (k := k) hk hS).1
    rw [rw1_low (by omega)] at a
    rw [rw1_low (by omega)]
    have : (R + 3 - k) * k < (S + 3 - k) * k := Int.mul_lt_mul_of_pos_right (by omega) (by omega)
    omega
  · have e2 : rw1 k R = R := by
      unfold rw1
      rw [if_pos (by omega)]
    have := grow_gt hS
    omega
theorem grow_lt {R S : Int} (hR : 1 ≤ R) (h : R < S) : grow R < grow S := rw1_lt (low_ge hR) hR h
theorem up_pos {v : Int} (hv : 1 ≤ v) : ∀ n, 1 ≤ up n v
  | 0 => hv
  | n + 1 => grow_pos (up_pos hv n)
theorem up_lt {v : Int} (hv : 1 ≤ v) (n : Nat) : up n v < up (n + 1) v := grow_gt (up_pos hv n)
theorem up_mono {v : Int} (hv : 1 ≤ v) {i : Nat} : ∀ {j : Nat}, i ≤ j → up i v ≤ up j v
  | 0, h => by
    have e : i = 0 := by omega
    subst e
    exact Int.le_refl _
  | j + 1, h => by
    by_cases c : i = j + 1
    · subst c; exact Int.le_refl _
    · have := up_mono hv (i := i) (j := j) (by omega)
      have := up_lt hv j
      omega

/-- the choices of each place -/
def chs : Nat → Int → List (List Int)
  | 0, _ => []
  | n + 1, v => bests (up n v) :: chs n v
/-- one of each -/
def Each : List Int → List (List Int) → Prop
  | [], [] => True
  | k :: ks, c :: cs => k ∈ c ∧ Each ks cs
  | _, _ => False
theorem rch_best : ∀ (ks : List Int) (v : Int), (∀ k ∈ ks, 2 ≤ k) → 1 ≤ v → rch ks v ≤ up ks.length v ∧ (rch ks v = up ks.length v ↔ Each ks (chs ks.length v))
  | [], v, _, _ => ⟨Int.le_refl _, fun _ => trivial, fun _ => rfl⟩
  | k :: ks, v, h, hv => by
    have hk := h k (List.mem_cons_self ..)
    have ht : ∀ x ∈ ks, 2 ≤ x := fun x hx => h x (List.mem_cons_of_mem _ hx)
    obtain ⟨a1, a2⟩ := rch_best ks v ht hv
    have p := rch_pos ks v ht hv
    show rw1 k (rch ks v) ≤ grow (up ks.length v) ∧ (rw1 k (rch ks v) = grow (up ks.length v) ↔ k ∈ bests (up ks.length v) ∧ Each ks (chs ks.length v))
    by_cases e : rch ks v = up ks.length v
    · rw [e]
      obtain ⟨b1, b2⟩ := rw1_le_grow (k := k) (R := up ks.length v) hk (up_pos hv _)
      exact ⟨b1, fun z => ⟨b2.mp z, a2.mp e⟩, fun z => b2.mpr z.1⟩
    · have l := rw1_lt (k := k) hk p (show rch ks v < up ks.length v by omega)
      exact ⟨by omega, fun z => by omega, fun z => absurd (a2.mpr z.2) e⟩
end Sq

set_option Elab.async false
set_option linter.all false
/-! One of each choice, by its place. -/
namespace Sq
def lens : List (List Int) → Int
  | [] => 1
  | c :: cs => (c.length : Int) * lens cs
def pick : List (List Int) → Int → List Int
  | [], _ => []
  | c :: cs, p => c.getD ((p / lens cs) % (c.length : Int)).toNat 0 :: pick cs p
def Full (cs : List (List Int)) : Prop := ∀ c ∈ cs, 0 < c.length
theorem Full.tl {c : List Int} {cs : List (List Int)} (h : Full (c :: cs)) : Full cs := fun x hx => h x (List.mem_cons_of_mem _ hx)
theorem Full.hd {c : List Int} {cs : List (List Int)} (h : Full (c :: cs)) : 0 < c.length := h c (List.mem_cons_self ..)
theorem lens_pos : ∀ {cs : List (List Int)}, Full cs → 0 < lens cs
  | [], _ => by decide
  | c :: cs, h => Int.mul_pos (by have := h.hd; omega) (lens_pos h.tl)
theorem pick_len : ∀ (cs : List (List Int)) (p : Int), (pick cs p).length = cs.length
  | [], _ => rfl
  | _ :: cs, p => congrArg Nat.succ (pick_len cs p)
theorem pick_add : ∀ {cs : List (List Int)} (p t : Int), Full cs → pick cs (p + t * lens cs) = pick cs p
  | [], _, _, _ => rfl
  | c :: cs, p, t, h => by
    have m := lens_pos h.tl
    have e : p + t * ((c.length : Int) * lens cs) = p + (t * (c.length : Int)) * lens cs := by rw [Int.mul_assoc]
    show c.getD (((p + t * ((c.length : Int) * lens cs)) / lens cs) % (c.length : Int)).toNat 0 :: pick cs (p + t * ((c.length : Int) * lens cs)) = c.getD ((p / lens cs) % (c.length : Int)).toNat 0 :: pick cs p
    rw [e, pick_add p _ h.tl, Int.add_mul_ediv_right _ _ (by omega : lens cs ≠ 0), Int.add_mul_emod_self_right]
theorem pick_mod {cs : List (List Int)} (p : Int) (h : Full cs) : pick cs (p % lens cs) = pick cs p := by
  have a := pick_add (p % lens cs) (p / lens cs) h
  have e : p % lens cs + p / lens cs * lens cs = p := by rw [Int.mul_comm]; exact Int.emod_add_mul_ediv p (lens cs)
  rw [e] at a
  exact a.symm
theorem at_mem {c : List Int} (h : 0 < c.length) (z : Int) : c.getD (z % (c.length : Int)).toNat 0 ∈ c := by
  have a := Int.emod_nonneg z (by omega : (c.length : Int) ≠ 0)
  have b := Int.emod_lt_of_pos z (by omega : 0 < (c.length : Int))
  have lt : (z % (c.length : Int)).toNat < c.length := by omega
  rw [List.getD_eq_getElem?_getD, List.getElem?_eq_getElem lt]
  exact List.getElem_mem lt
theorem pick_each : ∀ {cs : List (List Int)} (p : Int), Full cs → Each (pick cs p) cs
  | [], _, _ => trivial
  | c :: cs, p, h => ⟨at_mem h.hd _, pick_each p h.tl⟩
theorem div_lt {p a M : Int} (h0 : 0 ≤ p) (hM : 0 < M) (h : p < a * M) : 0 ≤ p / M ∧ p / M < a := ⟨Int.ediv_nonneg h0 (by omega), Int.ediv_lt_of_lt_mul hM h⟩
theorem pick_all : ∀ {cs : List (List Int)} {ks : List Int}, Full cs → Each ks cs → ∃ p : Int, 0 ≤ p ∧ p < lens cs ∧ pick cs p = ks
  | [], [], _, _ => ⟨0, by decide, by decide, rfl⟩
  | c :: cs, k :: ks, h, e => by
    obtain ⟨p, p0, p1, pe⟩ := pick_all (cs := cs) (ks := ks) h.tl e.2
    obtain ⟨i, hi, ek⟩ := List.mem_iff_getElem.mp e.1
    have m := lens_pos h.tl
    refine ⟨p + i * lens cs, ?_, ?_, ?_⟩
    · have := Int.mul_nonneg (by omega : (0 : Int) ≤ i) (by omega : 0 ≤ lens cs)
      omega
    · have : ((i : Int) + 1) * lens cs ≤ (c.length : Int) * lens cs := Int.mul_le_mul_of_nonneg_right (by omega) (by omega)
      rw [Int.add_mul] at this
      show p + i * lens cs < (c.length : Int) * lens cs
      omega
    · show c.getD (((p + i * lens cs) / lens cs) % (c.length : Int)).toNat 0 :: pick cs (p + i * lens cs) = k :: ks
      rw [pick_add p _ h.tl, pe, Int.add_mul_ediv_right _ _ (by omega : lens cs ≠ 0), Int.ediv_eq_zero_of_lt p0 p1, Int.zero_add, Int.emod_eq_of_lt (by omega) (by omega)]
      have : ((i : Int)).toNat = i := by omega
      rw [this, List.getD_eq_getElem?_getD, List.getElem?_eq_getElem hi]
      exact congrArg (· :: ks) ek
  | [], _ :: _, _, e => e.elim
  | _ :: _, [], _, e => e.elim
/-- the first that differs is less -/
def Lx : List Int → List Int → Prop
  | x :: xs, y :: ys => x < y ∨ (x = y ∧ Lx xs ys)
  | _, _ => False
def Asc (c : List Int) : Prop := ∀ i j : Nat, i < j → j < c.length → c.getD i 0 < c.getD j 0
theorem pick_lx : ∀ {cs : List (List Int)} {p q : Int}, Full cs → (∀ c ∈ cs, Asc c) → 0 ≤ p → p < q → q < lens cs → Lx (pick cs p) (pick cs q)
  | [], p, q, _, _, h0, h1, h2 => by
    have : q < 1 := h2
    omega
  | c :: cs, p, q, h, ha, h0, h1, h2 => by
    have m := lens_pos h.tl
    have h2' : q < (c.length : Int) * lens cs := h2
    obtain ⟨a1, a2⟩ := div_lt h0 m (by omega : p < (c.length : Int) * lens cs)
    obtain ⟨b1, b2⟩ := div_lt (by omega : 0 ≤ q) m h2'
    have le : p / lens cs ≤ q / lens cs := Int.ediv_le_ediv m (by omega)
    show _ < _ ∨ (_ = _ ∧ Lx (pick cs p) (pick cs q))
    rw [Int.emod_eq_of_lt a1 a2, Int.emod_eq_of_lt b1 b2]
    by_cases e : p / lens cs = q / lens cs
    · right
      refine ⟨by rw [e], ?_⟩
      rw [← pick_mod p h.tl, ← pick_mod q h.tl]
      have x := Int.emod_add_mul_ediv p (lens cs)
      have y := Int.emod_add_mul_ediv q (lens cs)
      rw [e] at x
      exact pick_lx h.tl (fun z hz => ha z (List.mem_cons_of_mem _ hz)) (Int.emod_nonneg _ (by omega)) (by omega) (Int.emod_lt_of_pos _ m)
    · left
      exact ha c (List.mem_cons_self ..) _ _ (by omega) (by omega)
theorem bests_len (R : Int) : (bests R).length = if R % 2 = 0 then 2 else 1 := by
  unfold bests
  by_cases h : R % 2 = 0
  · rw [if_pos h, if_neg (show ¬ low R = high R by unfold low high; omega)]
    rfl
  · rw [if_neg h, if_pos (show low R = high R by unfold low high; omega)]
    rfl
theorem bests_asc (R : Int) : Asc (bests R) := by
  intro i j h1 h2
  rw [bests_len] at h2
  split at h2
  · have e1 : i = 0 := by omega
    have e2 : j = 1 := by omega
    subst e1 e2
    unfold bests
    rw [if_neg (show ¬ low R = high R by unfold low high; omega)]
    show low R < high R
    unfold low high
    omega
  · omega
theorem chs_len : ∀ (n : Nat) (v : Int), (chs n v).length = n
  | 0, _ => rfl
  | n + 1, v => congrArg Nat.succ (chs_len n v)
theorem chs_mem : ∀ {n : Nat} {v : Int} {c : List Int}, c ∈ chs n v → ∃ i, i < n ∧ c = bests (up i v)
  | n + 1, v, c, h => by
    rcases List.mem_cons.mp h with e | h
    · exact ⟨n, by omega, e⟩
    · obtain ⟨i, hi, e⟩ := chs_mem h
      exact ⟨i, by omega, e⟩
theorem chs_full (n : Nat) (v : Int) : Full (chs n v) := fun c h => by
  obtain ⟨i, _, rfl⟩ := chs_mem h
  rw [bests_len]
  split <;> omega
theorem chs_asc (n : Nat) (v : Int) : ∀ c ∈ chs n v, Asc c := fun c h => by
  obtain ⟨i, _, rfl⟩ := chs_mem h
  exact bests_asc _
/-- the even reaches -/
def evens (n : Nat) (v : Int) : Nat := match n with
  | 0 => 0
  | n + 1 => evens n v + if up n v % 2 = 0 then 1 else 0
theorem lens_chs : ∀ (n : Nat) (v : Int), lens (chs n v) = (2 : Int) ^ evens n v
  | 0, _ => rfl
  | n + 1, v => by
    show ((bests (up n v)).length : Int) * lens (chs n v) = (2 : Int) ^ (evens n v + if up n v % 2 = 0 then 1 else 0)
    rw [lens_chs n v, bests_len]
    by_cases h : up n v % 2 = 0
    · rw [if_pos h, if_pos h, Int.pow_succ]
      omega
    · rw [if_neg h, if_neg h]
      show (1 : Int) * _ = _
      rw [Int.one_mul]
      rfl
theorem evens_le (n : Nat) (v : Int) : evens n v ≤ n := by
  induction n with
  | zero => exact Nat.le_refl _
  | succ n ih =>
    show evens n v + (if up n v % 2 = 0 then 1 else 0) ≤ n + 1
    split <;> omega
theorem lens_le {n : Nat} (h : n ≤ 8) (v : Int) : lens (chs n v) ≤ 256 := by
  rw [lens_chs]
  have : (2 : Nat) ^ evens n v ≤ 2 ^ 8 := Nat.pow_le_pow_right (by decide) (Nat.le_trans (evens_le n v) h)
  have e : ((2 ^ evens n v : Nat) : Int) = (2 : Int) ^ evens n v := by push_cast; rfl
  omega
theorem each_ge : ∀ {n : Nat} {v : Int} {ks : List Int}, 1 ≤ v → Each ks (chs n v) → ∀ k ∈ ks, 2 ≤ k ∧ k ≤ up n v + 2
  | 0, v, [], _, _ => fun k h => by cases h
  | n + 1, v, k :: ks, hv, e => fun x hx => by
    have l := up_lt hv n
    rcases List.mem_cons.mp hx with z | z
    · subst z
      have p := up_pos hv n
      have e1 : x ∈ bests (up n v) := e.1
      have a := low_ge p
      have b := low_le p
      have c := high_le p
      have d : low (up n v) ≤ high (up n v) := by unfold low high; omega
      unfold bests at e1
      split at e1
      · have := List.mem_singleton.mp e1
        omega
      · simp at e1
        omega
    · have := each_ge hv e.2 x z
      omega
  | n + 1, v, [], _, e => e.elim
  | 0, v, _ :: _, _, e => e.elim
theorem each_len : ∀ {ks : List Int} {cs : List (List Int)}, Each ks cs → ks.length = cs.length
  | [], [], _ => rfl
  | _ :: _, _ :: _, e => congrArg Nat.succ (each_len e.2)
  | [], _ :: _, e => e.elim
  | _ :: _, [], e => e.elim
end Sq

set_option Elab.async false
set_option linter.all false
set_option maxRecDepth 100000
set_option maxHeartbeats 2000000
/-! Data read off the layer's heap. -/
namespace Sq
open PySem PySem.Spec PyProof.Rows L2
theorem same_new {H : Hp} {p : Addr} {o : HO} (h : H p = none) : Same H (upd H p o) := fun b x e => by
  rw [upd_ne (ne_of_none e h)]
  exact e
theorem map_at {ks : List Int} {i : Nat} {x : V} (h : (ks.map V.int)[i]? = some x) : ∃ k, ks[i]? = some k ∧ V.int k = x := by
  rw [List.getElem?_map] at h
  exact Option.map_eq_some_iff.mp h
section
variable {K : PySem.W.Frag}
theorem dp_ints {H : Hp} : ∀ (ds : List Int), DpAll K H (ds.map V.int) (ds.map PyData.int)
  | [] => .nil
  | d :: ds => .cons (.int d) (dp_ints ds)
theorem lays_ints : ∀ (ds : List Int), PyData.canLayAll0 (ds.map PyData.int) = true
  | [] => rfl
  | d :: ds => by
    show (PyData.canLay0 (.int d) && PyData.canLayAll0 (ds.map PyData.int)) = true
    rw [lays_ints ds]
    rfl
theorem deep_ints : ∀ (ds : List Int), PyData.depthAll (ds.map PyData.int) ≤ 1
  | [] => Nat.zero_le _
  | _ :: ds => Nat.max_le.mpr ⟨Nat.zero_le _, deep_ints ds⟩
theorem shaped_ints (ds : List Int) : SeqAt.shaped (.list (ds.map PyData.int)) = true :=
  Bool.and_eq_true_iff.mpr ⟨lays_ints ds, decide_eq_true (Nat.le_trans (Nat.add_le_add_right (deep_ints ds) 1) (by decide))⟩
end
/-! ### data of ints and short lists -/
mutual
def il : PyData → Bool
  | .int _ => true
  | .list xs => decide (xs.length ≤ 1000) && ilAll xs
  | _ => false
def ilAll : List PyData → Bool
  | [] => true
  | x :: xs => il x && ilAll xs
end
theorem il_at : ∀ {ds : List PyData} {i : Nat} {d : PyData}, ilAll ds = true → ds[i]? = some d → il d = true
  | x :: xs, 0, d, h, e => by
    cases e
    exact (Bool.and_eq_true_iff.mp h).1
  | x :: xs, i + 1, d, h, e => il_at (Bool.and_eq_true_iff.mp h).2 e
theorem depth_at : ∀ {ds : List PyData} {i : Nat} {d : PyData}, ds[i]? = some d → d.depth ≤ PyData.depthAll ds
  | x :: xs, 0, d, e => by
    cases e
    exact Nat.le_max_left _ _
  | x :: xs, i + 1, d, e => Nat.le_trans (depth_at (ds := xs) e) (Nat.le_max_right _ _)
theorem dp_at {K : PySem.W.Frag} {H : Hp} : ∀ {xs : List V} {ds : List PyData} {i : Nat} {d : PyData}, DpAll K H xs ds → ds[i]? = some d → ∃ x, xs[i]? = some x ∧ Dp K H x d
  | _, _, 0, d, .cons h _, e => by
    cases e
    exact ⟨_, rfl, h⟩
  | _, _, i + 1, d, .cons _ t, e => dp_at (i := i) t e
theorem dp_len {K : PySem.W.Frag} {H : Hp} : ∀ {xs : List V} {ds : List PyData}, DpAll K H xs ds → xs.length = ds.length
  | _, _, .nil => rfl
  | _, _, .cons _ t => congrArg Nat.succ (dp_len t)
mutual
theorem Dp.same {K : PySem.W.Frag} {H H' : Hp} (s : Same H H') : ∀ {d : PyData} {x : V}, Dp K H x d → Dp K H' x d
  | .none, _, .non => .non
  | .bool b, _, .bl _ => .bl b
  | .int i, _, .int _ => .int i
  | .str x, _, .str _ => .str x
  | .list ds, _, .lst h a => .lst (s.seq h) (DpAll.same s a)
  | .tuple ds, _, .tup h a => .tup (by
      rcases h with (h | ⟨o, h⟩) | h
      · exact .inl (.inl (s _ _ h))
      · exact .inl (.inr ⟨o, s _ _ h⟩)
      · exact .inr h) (DpAll.same s a)
theorem DpAll.same {K : PySem.W.Frag} {H H' : Hp} (s : Same H H') : ∀ {ds : List PyData} {xs : List V}, DpAll K H xs ds → DpAll K H' xs ds
  | [], _, .nil => .nil
  | _ :: _, _, .cons h t => .cons (Dp.same s h) (DpAll.same s t)
end
theorem eqv_take : ∀ {ds es : List PyData} {i : Nat} {d e : PyData}, ds[i]? = some d → es[i]? = some e → PyData.eqvAll (ds.take (i + 1)) (es.take (i + 1)) = (PyData.eqvAll (ds.take i) (es.take i) && PyData.eqv d e)
  | x :: xs, y :: ys, 0, d, e, h1, h2 => by
    cases h1
    cases h2
    show (PyData.eqv x y && true) = (true && PyData.eqv x y)
    cases PyData.eqv x y <;> rfl
  | x :: xs, y :: ys, i + 1, d, e, h1, h2 => by
    show (PyData.eqv x y && PyData.eqvAll (xs.take (i + 1)) (ys.take (i + 1))) = ((PyData.eqv x y && PyData.eqvAll (xs.take i) (ys.take i)) && PyData.eqv d e)
    rw [eqv_take (ds := xs) (es := ys) (i := i) h1 h2, Bool.and_assoc]
theorem eqv_lens : ∀ {ds es : List PyData}, ds.length ≠ es.length → PyData.eqvAll ds es = false
  | [], [], h => absurd rfl h
  | [], _ :: _, _ => rfl
  | _ :: _, [], _ => rfl
  | x :: xs, y :: ys, h => by
    show (PyData.eqv x y && PyData.eqvAll xs ys) = false
    rw [eqv_lens (ds := xs) (es := ys) (fun z => h (congrArg Nat.succ z)), Bool.and_false]
theorem isi_of {K : PySem.W.Frag} {H : Hp} {x : V} {t n : String} {b : Bool} {Q : VK} (ty : TyX K H x (.type t)) (h : kitB t n = some b) (q : Q (.bl b) H) : rIsi K [x, .ty n] H Q :=
  ⟨x, .ty n, .type t, .type n, b, rfl, .ty n, ty, kit_ty h, q⟩
theorem ty_seq {K : PySem.W.Frag} {H : Hp} {a : Addr} {xs : List V} (h : SqL K H a xs) : TyX K H (.ref a) (.type "list") := by
  rcases h with (h | ⟨o, h⟩) | ⟨o, vs, m, h, hc, _⟩
  · exact .base (.lst h)
  · exact .base (.frz h)
  · exact .kList h hc
/-! ### the text of a list of ints -/
theorem heavy_ints : ∀ (ks : List Int), (∀ k ∈ ks, k.natAbs < 10 ^ 12) → PyData.weightAll (ks.map PyData.int) ≤ 64 * ks.length
  | [], _ => Nat.le_refl _
  | k :: ks, h => by
    have ih := heavy_ints ks fun x hx => h x (List.mem_cons_of_mem _ hx)
    have hk := h k (List.mem_cons_self ..)
    have w1 : PyData.weight (.int k) ≤ 41 := by
      show (if k == 0 then 0 else k.natAbs.log2 + 1) ≤ 41
      split
      · omega
      · have : k.natAbs.log2 < 40 := PySem.Flt.log2_lt_of (by decide) (Nat.lt_of_lt_of_le hk (by decide))
        omega
    show PyData.weight (.int k) + 1 + PyData.weightAll (ks.map PyData.int) ≤ 64 * (ks.length + 1)
    omega
theorem shows_ints : ∀ (ks : List Int), (∀ k ∈ ks, k.natAbs < 10 ^ 12) → PyData.showableAll (ks.map PyData.int) = true
  | [], _ => rfl
  | k :: ks, h => by
    have ih := shows_ints ks fun x hx => h x (List.mem_cons_of_mem _ hx)
    have hk := h k (List.mem_cons_self ..)
    have : k.natAbs.log2 < 40 := PySem.Flt.log2_lt_of (by decide) (Nat.lt_of_lt_of_le hk (by decide))
    show (decide (k.natAbs.log2 < 1920) && PyData.showableAll (ks.map PyData.int)) = true
    rw [ih, decide_eq_true (by omega)]
    rfl
theorem nodict_ints : ∀ (ks : List Int), PyData.hasDictAll (ks.map PyData.int) = false
  | [] => rfl
  | _ :: ks => nodict_ints ks
theorem short_ints {ks : List Int} (h : ∀ k ∈ ks, k.natAbs < 10 ^ 12) (hl : ks.length ≤ 1000) : (PyData.list (ks.map PyData.int)).shown.length ≤ sizeLine := by
  have w1 : PyData.weight (.list (ks.map PyData.int)) ≤ 64 * ks.length := heavy_ints ks h
  have lv := PyData.leavesShort_of_canLay0 13 (.list (ks.map PyData.int)) (lays_ints ks) (PyData.intsShortAll_ints ks h)
  refine PyData.shown_fits (B := 13) (by decide) (by decide) lv (Nat.le_trans w1 ?_)
  have e : (2 : Nat) ^ 20 = 1048576 := by decide
  omega
theorem dep40 (ks : List Int) : (PyData.list (ks.map PyData.int)).depth ≤ 40 := Nat.le_trans (Nat.add_le_add_right (deep_ints ks) 1) (by decide)
theorem shaped_il {d : PyData} (h : d.canLay0 = true) (h2 : d.depth ≤ 64) : SeqAt.shaped d = true := Bool.and_eq_true_iff.mpr ⟨h, decide_eq_true h2⟩
mutual
theorem il_lay : ∀ {d : PyData}, il d = true → d.canLay0 = true
  | .int _, _ => rfl
  | .list xs, h => ilAll_lay (Bool.and_eq_true_iff.mp h).2
  | .none, h => nomatch h
  | .bool _, h => nomatch h
  | .str _, h => nomatch h
  | .tuple _, h => nomatch h
  | .dict _, h => nomatch h
theorem ilAll_lay : ∀ {ds : List PyData}, ilAll ds = true → PyData.canLayAll0 ds = true
  | [], _ => rfl
  | _ :: _, h => Bool.and_eq_true_iff.mpr ⟨il_lay (Bool.and_eq_true_iff.mp h).1, ilAll_lay (Bool.and_eq_true_iff.mp h).2⟩
end
theorem KE_same {a b : List Int} (hp : a.Perm b) (ha : a.Pairwise (· ≤ ·)) (hb : b.Pairwise (· ≤ ·)) : a = b := hp.eq_of_pairwise (fun x y _ _ h1 h2 => Int.le_antisymm h1 h2) ha hb
theorem il_ints : ∀ (ks : List Int), ilAll (ks.map PyData.int) = true
  | [] => rfl
  | _ :: ks => il_ints ks
theorem eqv_refl' {d : PyData} (h : il d = true) : PyData.eqv d d = true := PySem.SeqAt.eqv_refl d (il_lay h)
end Sq
namespace Sq
open PySem PySem.Spec PyProof.Rows L2
/-! ### repr of any value whose data is known -/
structure Shown (K : PySem.W.Frag) (H : Hp) (x : V) (d : PyData) : Prop where
  dp : Dp K H x d
  sh : d.showable = true
  nd : d.hasDict = false
  dep : d.depth ≤ 40
  fit : d.shown.length ≤ sizeLine
theorem Shown.same {K : PySem.W.Frag} {H H' : Hp} {x : V} {d : PyData} (S : Shown K H x d) (s : Same H H') : Shown K H' x d := ⟨Dp.same s S.dp, S.sh, S.nd, S.dep, S.fit⟩
def rReprV (K : PySem.W.Frag) : List V → Hp → VK → Prop := fun xs H Q => ∃ x d, xs = [x] ∧ Shown K H x d ∧ Q (.str d.shown) H
theorem call_reprV {X : Cx} (hg : X.A.guards = some []) (hu : X.A.units + 64 < cLine) : CallR X (.builtin "repr") (rReprV X.K) := by
  intro pins s σ H xs us Q I r h
  obtain ⟨x, d, rfl, S, q⟩ := h
  obtain ⟨u, rfl, rv⟩ := vals1 r
  obtain ⟨dp, sh, nd, dep, fit⟩ := S
  cases dp with
  | non =>
    obtain rfl : u = Value.none := rv
    exact PySem.P.repr_of_none ⟨.str _, H, I.tok _, ⟨_, rfl⟩, q⟩
  | bl b =>
    obtain rfl : u = Value.bool b := rv
    exact PySem.P.repr_of_bool ⟨.str _, H, I.tok _, ⟨_, rfl⟩, q⟩
  | int i =>
    obtain ⟨t, rfl⟩ := rv
    exact PySem.P.repr_of_int (of_decide_eq_true sh) ⟨.str _, H, I.tok _, ⟨_, rfl⟩, q⟩
  | str y =>
    obtain ⟨t, rfl⟩ := rv
    exact PySem.P.repr_of_str ⟨.str _, H, I.tok _, ⟨_, rfl⟩, q⟩ fit
  | lst hs ha => exact call_reprD hg hu pins s σ H _ _ Q I r ⟨_, _, rfl, .lst hs ha, sh, nd, dep, fit, q⟩
  | tup hs ha => exact call_reprD hg hu pins s σ H _ _ Q I r ⟨_, _, rfl, .tup hs ha, sh, nd, dep, fit, q⟩
theorem fits40 {d : PyData} (h : d.leavesShort 40 = true) (hw : d.weight ≤ 100000) : d.shown.length ≤ sizeLine := by
  have e := PyData.shown_le 40 (by decide) d h
  rw [sizeLine_eq]
  omega
/-! ### powers of greater numbers -/
def CPowW (i j : Int) : Prop := 0 ≤ j ∧ (Builtin.Int.intBits i : Int) * j ≤ 2 ^ 27
theorem op_powW {X : Cx} : OpR X (binaryOp .Pow) (rI CPowW fun i j => .int (i ^ j.toNat)) := opI fun _ _ _ _ _ _ _ hc q => pow_int hc.1 hc.2 q
theorem powW_of {i j : Int} {m : Nat} (h0 : 0 ≤ j) (hi : i.natAbs < 2 ^ m) (hm : 0 < m) (hj : (m : Int) * j ≤ 2 ^ 27) : CPowW i j := by
  refine ⟨h0, Int.le_trans (Int.mul_le_mul_of_nonneg_right ?_ h0) hj⟩
  unfold Builtin.Int.intBits
  split
  · omega
  · have := PySem.Flt.log2_lt_of hm hi
    omega
end Sq
namespace Sq
open PySem PySem.Spec PyProof.Rows L2
def rMulS : R2 := fun x y H Q => ∃ a n, x = .str a ∧ y = .int n ∧ _root_.PySem.MulOk a n ∧ Q (.str (_root_.PySem.Txt.mul a n)) H
theorem op_mulS {X : Cx} : OpR X (binaryOp .Mult) rMulS := by
  intro pins s σ H x y v u Q I rx ry h
  obtain ⟨a, n, rfl, rfl, hok, q⟩ := h
  obtain ⟨t, rfl⟩ := rx
  obtain ⟨t', rfl⟩ := ry
  exact SB.mul hok fun t2 k => ⟨.str _, H, I.tok k, ⟨_, rfl⟩, q⟩
end Sq

set_option Elab.async false
set_option linter.all false
set_option maxRecDepth 100000
set_option maxHeartbeats 1000000
/-! `for` in a generator's body, with yields in its suite. -/
namespace PySem
open Sem (wp)
section
variable {M : Model} {A : Around} {R : GenEnd} {Y : Protocol} {n : Nat} {s₀ : Shared} {c : Code} {fs : List Frame} {s : Shared} {env : Env}
  {K : Flow → Sem Fin} {H : Value → Sem Fin} {gd : Bool → Bool} {lv : List Value → List Value}
theorem segFor {target iter : Expr} {body orelse : List Stmt} {pos : Pos}
    (h : wpAny M (A.over c fs) (eval iter env) (fun x s₁ => wpAny M (A.over c fs) (pyIter x) (fun it s₂ =>
        ∀ p, Seg M A R Y n s₀ (.forLoop target it body orelse env) (M.den (.forLoop target it body orelse env))
      (.ret (fun r => ((match r with | .ok f => (.pure f : Sem Flow) | .error e => .raise e).onRaise fun (x : Value) => do
        if (← field x 1) == Value.none then unsupported "frame.own-activation:exception-without-traceback"
        setFlight x env.frame).wrap K H gd lv) none (gd false) (lv []) c p [] :: fs) s₂) (fun x s' => Seg M A R Y n s₀ c (H x) fs s') s₁)
      (fun x s' => Seg M A R Y n s₀ c (H x) fs s') s)
    (hs : ∀ x, foldedSetIterable iter env x = pure x := by intro _; rfl) :
    Seg M A R Y n s₀ c ((exec (.For target iter body orelse pos) env).wrap K H gd lv) fs s := by
  rw [exec_For]
  refine seg_bind_wrap (wpAny_standAt ?_)
  refine seg_bind_wrap (wpAny_mono h (fun x s₁ h₁ => ?_) fun _ _ h' => h')
  refine seg_bind_wrap (wpAny_of_eq (hs x) ?_)
  refine seg_bind_wrap (wpAny_standAt ?_)
  refine seg_bind_wrap (wpAny_holding (wpAny_mono h₁ (fun it s₂ h₂ => ?_) fun _ _ h' => h'))
  exact seg_call h₂
end
section
variable {prog : Program} {w : World} {A : Around} {R : GenEnd} {Y : Protocol} {n : Nat} {s₀ : Shared} {fs : List Frame} {s : Shared} {env : Env}
theorem segForLoop {target : Expr} {it : Value} {body orelse : List Stmt}
    (h : wpAny (model prog w) (A.over (.forLoop target it body orelse env) fs) (pyNext it) (fun r s₁ => match r with
        | none => Seg (model prog w) A R Y n s₀ (.forLoop target it body orelse env) (.pure (.again (.block orelse env))) fs s₁
        | some v => wpAny (model prog w) (A.over (.forLoop target it body orelse env) fs) (letOwnedTupleGo target it v) (fun _ s₂ =>
            wpAny (model prog w) (A.over (.forLoop target it body orelse env) fs) (assign target env v) (fun _ s₃ =>
              Seg (model prog w) A R Y n s₀ (.forLoop target it body orelse env) ((execs body env).wrap (fun f => match f with
            | .next | .cont => .pure (.again (.forLoop target it body orelse env))
            | .brk => .pure (.done .next)
            | .ret v => .pure (.done (.ret v))) (fun e => (do noteFrame e env; theTreesLotGoes e : Sem Unit).wrap (fun _ => .raise e) .raise id id) id id) fs s₃)
              (fun x s' => Seg (model prog w) A R Y n s₀ (.forLoop target it body orelse env) ((do noteFrame x env; theTreesLotGoes x : Sem Unit).wrap (fun _ => .raise x) .raise id id) fs s') s₂)
            (fun x s' => Seg (model prog w) A R Y n s₀ (.forLoop target it body orelse env) ((do noteFrame x env; theTreesLotGoes x : Sem Unit).wrap (fun _ => .raise x) .raise id id) fs s') s₁)
      (fun x s' => Seg (model prog w) A R Y n s₀ (.forLoop target it body orelse env) ((do noteFrame x env; theTreesLotGoes x : Sem Unit).wrap (fun _ => .raise x) .raise id id) fs s') s) :
    Seg (model prog w) A R Y n s₀ (.forLoop target it body orelse env) ((model prog w).den (.forLoop target it body orelse env)) fs s := by
  show Seg _ A R Y n s₀ _ ((forTurn target it body orelse env).onRaise (fun x => do noteFrame x env; theTreesLotGoes x)) fs s
  unfold forTurn
  rw [Sem.onRaise_eq_wrap]
  have he : ∀ (x : Value) (s' : Shared), Seg (model prog w) A R Y n s₀ (.forLoop target it body orelse env) ((do noteFrame x env; theTreesLotGoes x : Sem Unit).wrap (fun _ => .raise x) .raise id id) fs s' →
      Seg (model prog w) A R Y n s₀ (.forLoop target it body orelse env) ((do noteFrame x env; theTreesLotGoes x : Sem Unit).bind fun _ => .raise x) fs s' := fun x s' hx => by
    rw [Sem.bind_eq_wrap]; exact hx
  refine seg_bind_wrap (wpAny_standAt ?_)
  refine seg_bind_wrap (wpAny_onRaise (wpAny_mono h (fun r s₁ h₁ => ?_) fun x s' hx => wpAny_standAt (he x s' hx)))
  cases r with
  | none => exact h₁
  | some v =>
    refine seg_bind_wrap (wpAny_mono h₁ (fun _ s₂ h₂ => ?_) fun x s' hx => he x s' hx)
    refine seg_bind_wrap (wpAny_mono h₂ (fun _ s₃ h₃ => ?_) fun x s' hx => he x s' hx)
    rw [Sem.bind_eq_wrap', Sem.wrap_wrap]
    rw [Sem.wrap_congr (execs body env) _ _ (K' := fun f => match f with
            | .next | .cont => .pure (.again (.forLoop target it body orelse env))
            | .brk => .pure (.done .next)
            | .ret v => .pure (.done (.ret v))) (H' := (fun e => (do noteFrame e env; theTreesLotGoes e : Sem Unit).wrap (fun _ => .raise e) .raise id id))
        (fun f => by cases f <;> rfl)
        (fun e => by first | exact Sem.bind_eq_wrap _ _ | (show (do noteFrame e env; theTreesLotGoes e : Sem Unit).bind (fun _ => .raise e) = _; rw [Sem.bind_eq_wrap]))]
    exact h₃
theorem segBlockNil (h : Seg (model prog w) A R Y n s₀ (.block [] env) (.pure (.done .next)) fs s) :
    Seg (model prog w) A R Y n s₀ (.block [] env) ((model prog w).den (.block [] env)) fs s := h
end
end PySem

namespace L2
open PySem PySem.Spec PyProof.Rows GenW
section
variable {X : Cx} {tg : Expr}
theorem gc_more {S : Addr} {ip ip' : List (Addr × Obj)} {A : Around} {c : Code} {fs : List Frame} {gd : Bool → Bool} (g : GC X S ip A c fs gd) (h : ∀ p ∈ ip', p.1 ≠ S) : GC X S (ip ++ ip') A c fs gd where
  pn := g.pn
  ip := fun p hp => (List.mem_append.mp hp).elim (g.ip p) (h p)
  apart := g.apart
  over := g.over
  split := g.split
  guard := g.guard
  gd := g.gd
theorem GI.less {S : Addr} {ip ip' : List (Addr × Obj)} {ys : List V} {σ : St} {H : Hp} {s : Shared} (h : GI X S (ip ++ ip') ys σ H s) : GI X S ip ys σ H s := by
  obtain ⟨acc, c, r, I⟩ := h
  exact ⟨acc, c, r, I.pins_of fun p hp => I.pin p (List.mem_append_right _ ((List.mem_cons.mp hp).elim (fun e => e ▸ List.mem_cons_self) fun z => List.mem_cons_of_mem _ (List.mem_append_left _ z)))⟩
/-- as tFor, with what is out -/
def tGFor (wi : TI) (g : TG) (tb : TGn) : TGn := fun D ys σ H => wi σ H fun J H1 => ∃ W : Nat → Nat → List V → St → Hp → Prop, (∃ m, W 0 m ys σ H1) ∧ ∀ i m ys σ H, W i m ys σ H →
  (J.stop i H ∧ D.nx ys σ H) ∨ (J.go i H ∧ ∃ N : List V → St → Hp → Prop, (∀ ys' σ' H', N ys' σ' H' → ∃ m', m' < m ∧ W (i + 1) m' ys' σ' H') ∧ ∀ x H', J.yld i H x H' → g x σ H' fun σ2 H2 => tb { D with nx := N, ct := N, bk := D.nx } ys σ2 H2)
theorem gs_for {iter : Expr} {body : List Stmt} {wi : TI} {g : TG} {tb : TGn} {pos : Pos} (hp : PassesOwn (model X.prog X.w) X.A X.env X.xe) (hcalm : X.calm = true) (hi : PI X tg iter wi) (hg : PG X tg g) (hb : GSs X body tb)
    (hs : ∀ x, foldedSetIterable iter X.env x = pure x := by intro _; rfl) : GS X (.For tg iter body [] pos) (tGFor wi g tb) := by
  refine ⟨fun A S ip R n ys s₀ c fs K J gd lv s σ H D gc hn k hI ht => ?_⟩
  obtain ⟨acc, cc, r, I⟩ := hI
  refine segFor ?_ hs
  rw [gc.over]
  refine wpAny_mono (hi.run _ s σ H _ I ht) (fun v s1 h1 => ?_) fun x s' hx => k.exc n s₀ x s' hx
  refine wpAny_mono h1 (fun itv s2 h2 => ?_) fun x s' hx => k.exc n s₀ x s' hx
  obtain ⟨it, fp, tn, J', H2, e, I2, T, st2, f2, W, ⟨m0, w0⟩, turn⟩ := h2
  subst e
  intro p
  have gl := fun (kk : Result → Sem PySem.Fin) => gc_loop (k := kk) (c' := .forLoop tg (.ref it) body [] X.env) (l := lv []) (kp := []) (p := p) gc rfl rfl
  have fpS : ∀ b ∈ fp, b ≠ S := fun b hb e => by
    obtain ⟨_, q1, q2, q3, q4, q5⟩ := f2 b hb
    exact q5 (S, lstObj acc cc) (List.mem_append_right _ List.mem_cons_self) e.symm
  have stat : ∀ {H' : Hp}, (∀ b ∈ fp, H' b = none) → ∀ {acc : Array Value} {c : Nat}, ∀ b ∈ fp, FpOk X ((S, lstObj acc c) :: ip) H' b := fun {H'} hn {acc c} b hb => by
    obtain ⟨_, q1, q2, q3, q4, q5⟩ := f2 b hb
    refine ⟨hn b hb, q1, q2, q3, q4, fun p hp => ?_⟩
    rcases List.mem_append.mp hp with z | z
    · exact q5 p (List.mem_append_left _ z)
    · rcases List.mem_cons.mp z with z | z
      · rw [z]
        exact fun e => fpS b hb e.symm
      · exact q5 p (List.mem_append_right _ (List.mem_cons_of_mem _ z))
  have loop : ∀ (m i n : Nat) (ys : List V) (s₀ s : Shared) (σ : St) (H : Hp), n + ys.length = sizeLine → W i m ys σ H → tn i s.heap → (∀ b ∈ fp, H b = none) → GI X S ip ys σ H s →
      Seg (model X.prog X.w) A R (GY X S) n s₀ (.forLoop tg (.ref it) body [] X.env) ((model X.prog X.w).den (.forLoop tg (.ref it) body [] X.env))
        (.ret (fun r => ((match r with | .ok f => (.pure f : Sem Flow) | .error e => .raise e).onRaise (cameBack X.env)).wrap K J gd lv) none (gd false) (lv []) c p [] :: fs) s := by
    intro m
    induction m using Nat.strongRecOn with
    | ind m ih =>
      intro i n ys s₀ s σ H hn w st fr hI
      have ee : ∀ (n : Nat) (s₀ : Shared) (x : Value) (s' : Shared), X.xe x s' → Seg (model X.prog X.w) A R (GY X S) n s₀ (.forLoop tg (.ref it) body [] X.env)
          ((do noteFrame x X.env; theTreesLotGoes x : Sem Unit).wrap (fun _ => .raise x) .raise id id)
          (.ret (fun r => ((match r with | .ok f => (.pure f : Sem Flow) | .error e => .raise e).onRaise (cameBack X.env)).wrap K J gd lv) none (gd false) (lv []) c p [] :: fs) s' := fun n s₀ x s' hx => by
        refine seg_wrap ?_
        rw [(gl _).over]
        refine wpAny_bind (wpAny_mono (hp x s' hx) (fun _ s'' hcb => wpAny_theTreesLotGoes ?_) fun y s'' hcb => ?_)
        · exact seg_leaf (.error x) (seg_cameBack gc k hcb)
        · exact seg_leaf (.error y) (seg_cameBack gc k hcb)
      refine segForLoop ?_
      rw [(gl _).over]
      obtain ⟨acc, cc, r, I⟩ := hI
      rcases turn i m ys σ H w with ⟨stop, qn⟩ | ⟨go, N, hN, step⟩
      · refine wpAny_mono (T.done X rfl rfl rfl hcalm i _ s σ H X.xe I (stat fr) st stop) (fun rr s4 hh => ?_) fun x s' hx => ee n s₀ x s' hx
        obtain ⟨hr, I4⟩ := hh
        subst hr
        refine seg_again rfl (segBlockNil ?_)
        exact seg_leaf (.ok .next) (k.ok n ys s₀ s4 .next hn ⟨σ, H, ⟨acc, cc, r, I4⟩, qn⟩)
      · refine wpAny_mono (T.item X rfl rfl rfl hcalm i _ s σ H X.xe I (stat fr) st go) (fun rr s4 hh => ?_) fun x s' hx => ee n s₀ x s' hx
        obtain ⟨u, hr, h4⟩ := hh
        subst hr
        refine wpAny_mono h4 (fun _ s5 hh => ?_) fun x s' hx => ee n s₀ x s' hx
        obtain ⟨x, H5, I5, r5, y5, st5, fr5⟩ := hh
        have I5' := I5.pinned (stat fr5) (T.obj _ _ st5)
        refine wpAny_mono (hg.run _ s5 σ H5 x u _ I5' r5 (step x H5 y5)) (fun _ s6 hh => ?_) fun x s' hx => ee n s₀ x s' hx
        obtain ⟨σ6, H6, I6, q6⟩ := hh
        have gm : GC X S (ip ++ pinsAt fp s5.heap) A (.forLoop tg (.ref it) body [] X.env) (.ret (fun r => ((match r with | .ok f => (.pure f : Sem Flow) | .error e => .raise e).onRaise (cameBack X.env)).wrap K J gd lv) none (gd false) (lv []) c p [] :: fs) id :=
          gc_more (gl _) fun q hq => fpS q.1 (of_pinsAt hq).1
        have again : ∀ {n' : Nat} {ys' : List V} {s₀' s7 : Shared} {σ7 : St} {H7 : Hp}, n' + ys'.length = sizeLine → GI X S (ip ++ pinsAt fp s5.heap) ys' σ7 H7 s7 → N ys' σ7 H7 →
            Seg (model X.prog X.w) A R (GY X S) n' s₀' (.forLoop tg (.ref it) body [] X.env) (.pure (.again (.forLoop tg (.ref it) body [] X.env)))
              (.ret (fun r => ((match r with | .ok f => (.pure f : Sem Flow) | .error e => .raise e).onRaise (cameBack X.env)).wrap K J gd lv) none (gd false) (lv []) c p [] :: fs) s7 := fun {n' ys' s₀' s7 σ7 H7} hn' I7 n7 => by
          obtain ⟨m', hm, w7⟩ := hN ys' σ7 H7 n7
          have pz : ∀ b ∈ fp, ∀ o, s5.heap.get? b = some o → s7.heap.get? b = some o ∧ H7 b = none := fun b hb o e => by
            obtain ⟨acc7, c7, _, I7'⟩ := I7
            have z := I7'.pin (b, o) (List.mem_append_right _ (List.mem_cons_of_mem _ (List.mem_append_right _ (mem_pinsAt hb e))))
            exact ⟨z.1, z.2.1⟩
          refine seg_again rfl (ih m' hm (i + 1) n' ys' s₀' s7 σ7 H7 hn' w7 (T.keep _ _ _ st5 fun b hb o e => (pz b hb o e).1) (fun b hb => ?_) I7.less)
          obtain ⟨o, e, d⟩ := T.obj _ _ st5 b hb
          exact (pz b hb o e).2
        refine hb.run A S (ip ++ pinsAt fp s5.heap) R n ys s₀ _ _ _ _ id id s6 σ6 H6 { D with nx := N, ct := N, bk := D.nx } gm hn ⟨fun n' ys' s₀' s3 f hn' hs => ?_, fun n' s₀' x s3 hx => ee n' s₀' x s3 hx⟩ ⟨acc, cc, r, I6⟩ q6
        cases f with
        | next =>
          obtain ⟨σ3, H3, I3, n3⟩ := hs
          exact again hn' I3 n3
        | cont =>
          obtain ⟨σ3, H3, I3, n3⟩ := hs
          exact again hn' I3 n3
        | brk =>
          obtain ⟨σ3, H3, I3, n3⟩ := hs
          exact seg_leaf (.ok .next) (k.ok n' ys' s₀' s3 .next hn' ⟨σ3, H3, I3.less, n3⟩)
        | ret v =>
          obtain ⟨x3, σ3, H3, I3, r3, n3⟩ := hs
          exact seg_leaf (.ok (.ret v)) (k.ok n' ys' s₀' s3 (.ret v) hn' ⟨x3, σ3, H3, I3.less, r3, n3⟩)
  exact loop m0 0 n ys s₀ s2 σ H2 hn w0 st2 (fun b hb => (f2 b hb).1) ⟨acc, cc, r, I2⟩
end
end L2

set_option Elab.async false
set_option linter.all false
set_option maxRecDepth 100000
set_option maxHeartbeats 2000000
/-! Lists of lists of ints; a walk in a generator. -/
namespace Sq
open PySem PySem.Spec PyProof.Rows L2
theorem gfor_it {J : It} {n : Nat} {G : Hp → Prop} {Y : Nat → Hp → V → Hp → Prop} (w : Walk J n G Y) {g : TG} {tb : TGn} {D : GEnds} {ys : List V} {σ : L2.St} {H : Hp} (Pv : Nat → List V → L2.St → Hp → Prop) (h0 : Pv 0 ys σ H) (hG : ∀ i ys σ H, i ≤ n → Pv i ys σ H → G H)
    (hs : ∀ i x ys σ H H', i < n → Pv i ys σ H → Y i H x H' → g x σ H' fun σ2 H2 => tb { D with nx := Pv (i + 1), ct := Pv (i + 1), bk := D.nx } ys σ2 H2) (hd : ∀ ys σ H, Pv n ys σ H → D.nx ys σ H) :
    ∃ W : Nat → Nat → List V → L2.St → Hp → Prop, (∃ m, W 0 m ys σ H) ∧ ∀ i m ys σ H, W i m ys σ H →
      (J.stop i H ∧ D.nx ys σ H) ∨ (J.go i H ∧ ∃ N : List V → L2.St → Hp → Prop, (∀ ys' σ' H', N ys' σ' H' → ∃ m', m' < m ∧ W (i + 1) m' ys' σ' H') ∧ ∀ x H', J.yld i H x H' → g x σ H' fun σ2 H2 => tb { D with nx := N, ct := N, bk := D.nx } ys σ2 H2) := by
  refine ⟨fun i m ys σ H => m = n - i ∧ i ≤ n ∧ Pv i ys σ H, ⟨n, by simp, Nat.zero_le _, h0⟩, ?_⟩
  rintro i m ys σ H ⟨rfl, hi, p⟩
  have q := hG i ys σ H hi p
  by_cases hlt : i < n
  · exact .inr ⟨w.goes i H hlt q, Pv (i + 1), fun ys' σ' H' p' => ⟨n - (i + 1), by omega, rfl, hlt, p'⟩, fun x H' y => hs i x ys σ H H' hlt p (w.yields i H x H' hlt q y)⟩
  · have e : i = n := by omega
    subst e
    exact .inl ⟨w.stops H q, hd ys σ H p⟩
/-- at each of them stands its list of ints -/
def RowsAt (H : Hp) : List Addr → List (List Int) → Prop
  | [], [] => True
  | a :: as, c :: cs => H a = some (.lst (c.map V.int)) ∧ RowsAt H as cs
  | _, _ => False
theorem RowsAt.same {H H' : Hp} (s : Same H H') : ∀ {as : List Addr} {cs : List (List Int)}, RowsAt H as cs → RowsAt H' as cs
  | [], [], _ => trivial
  | _ :: _, _ :: _, h => ⟨s _ _ h.1, RowsAt.same s h.2⟩
  | [], _ :: _, h => h.elim
  | _ :: _, [], h => h.elim
theorem RowsAt.len {H : Hp} : ∀ {as : List Addr} {cs : List (List Int)}, RowsAt H as cs → as.length = cs.length
  | [], [], _ => rfl
  | _ :: _, _ :: _, h => congrArg Nat.succ (RowsAt.len h.2)
  | [], _ :: _, h => h.elim
  | _ :: _, [], h => h.elim
theorem RowsAt.app {H : Hp} : ∀ {as : List Addr} {cs : List (List Int)} {bs : List Addr} {ds : List (List Int)}, RowsAt H as cs → RowsAt H bs ds → RowsAt H (as ++ bs) (cs ++ ds)
  | [], [], _, _, _, h2 => h2
  | _ :: _, _ :: _, _, _, h, h2 => ⟨h.1, RowsAt.app h.2 h2⟩
  | [], _ :: _, _, _, h, _ => h.elim
  | _ :: _, [], _, _, h, _ => h.elim
theorem RowsAt.rev {H : Hp} : ∀ {as : List Addr} {cs : List (List Int)}, RowsAt H as cs → RowsAt H as.reverse cs.reverse
  | [], [], _ => trivial
  | _ :: _, _ :: _, h => by
    rw [List.reverse_cons, List.reverse_cons]
    exact (RowsAt.rev h.2).app ⟨h.1, trivial⟩
  | [], _ :: _, h => h.elim
  | _ :: _, [], h => h.elim
theorem RowsAt.get {H : Hp} : ∀ {as : List Addr} {cs : List (List Int)} {i : Nat} {c : List Int}, RowsAt H as cs → cs[i]? = some c → ∃ a, as[i]? = some a ∧ H a = some (.lst (c.map V.int))
  | _ :: _, _ :: _, 0, _, h, e => by
    cases e
    exact ⟨_, rfl, h.1⟩
  | _ :: _, _ :: _, i + 1, _, h, e => RowsAt.get (i := i) h.2 e
  | [], _ :: _, _, _, h, _ => h.elim
  | _, [], _, _, _, e => by simp at e
theorem RowsAt.upd {H : Hp} {p : Addr} {o : HO} : ∀ {as : List Addr} {cs : List (List Int)}, RowsAt H as cs → p ∉ as → RowsAt (upd H p o) as cs
  | [], [], _, _ => trivial
  | a :: _, _ :: _, h, n => ⟨by rw [upd_ne (fun z => n (by rw [z]; exact List.mem_cons_self ..))]; exact h.1, RowsAt.upd h.2 (fun z => n (List.mem_cons_of_mem _ z))⟩
  | [], _ :: _, h, _ => h.elim
  | _ :: _, [], h, _ => h.elim
theorem RowsAt.off {H : Hp} {p : Addr} : ∀ {as : List Addr} {cs : List (List Int)}, RowsAt H as cs → H p = none → p ∉ as
  | [], [], _, _, z => nomatch z
  | a :: _, _ :: _, h, e, z => by
    rcases List.mem_cons.mp z with z | z
    · have := h.1
      rw [← z, e] at this
      cases this
    · exact RowsAt.off h.2 e z
  | [], _ :: _, h, _, _ => h.elim
  | _ :: _, [], h, _, _ => h.elim
theorem map_ref {as : List Addr} {i : Nat} {x : V} (h : (as.map V.ref)[i]? = some x) : ∃ a, as[i]? = some a ∧ V.ref a = x := by
  rw [List.getElem?_map] at h
  exact Option.map_eq_some_iff.mp h
/-- what they hold, as data -/
def dRows (cs : List (List Int)) : List PyData := cs.map fun c => PyData.list (c.map PyData.int)
theorem dp_rows {K : PySem.W.Frag} {H : Hp} : ∀ {as : List Addr} {cs : List (List Int)}, RowsAt H as cs → DpAll K H (as.map V.ref) (dRows cs)
  | [], [], _ => .nil
  | _ :: _, c :: _, h => .cons (.lst (SqL.of h.1) (dp_ints c)) (dp_rows h.2)
  | [], _ :: _, h => h.elim
  | _ :: _, [], h => h.elim
end Sq

set_option Elab.async false
set_option linter.all false
set_option maxRecDepth 100000
set_option maxHeartbeats 1000000
/-! Lists of lists of ints as data. -/
namespace Sq
open PySem PySem.Spec PyProof.Rows L2
theorem eqvAll_ints : ∀ xs ys : List Int, PyData.eqvAll (xs.map PyData.int) (ys.map PyData.int) = decide (xs = ys)
  | [], [] => rfl
  | [], _ :: _ => rfl
  | _ :: _, [] => rfl
  | x :: xs, y :: ys => by
    show (PyData.eqv (.int x) (.int y) && PyData.eqvAll (xs.map PyData.int) (ys.map PyData.int)) = decide (x :: xs = y :: ys)
    rw [eqvAll_ints xs ys]
    have e : PyData.eqv (.int x) (.int y) = decide (x = y) := by
      show (x == y) = decide (x = y)
      by_cases h : x = y
      · rw [decide_eq_true h]; exact beq_iff_eq.mpr h
      · rw [decide_eq_false h]; exact beq_eq_false_iff_ne.mpr h
    rw [e]
    by_cases h1 : x = y
    · by_cases h2 : xs = ys
      · subst h1 h2
        simp
      · simp [h1, h2]
    · simp [h1]
theorem eqv_ints (xs ys : List Int) : PyData.eqv (.list (xs.map PyData.int)) (.list (ys.map PyData.int)) = decide (xs = ys) := eqvAll_ints xs ys
theorem any_rows (r : List Int) : ∀ cs : List (List Int), ((dRows cs).any fun z => PyData.eqv z (.list (r.map PyData.int))) = decide (r ∈ cs)
  | [] => by simp [dRows]
  | c :: cs => by
    show (PyData.eqv (.list (c.map PyData.int)) (.list (r.map PyData.int)) || (dRows cs).any fun z => PyData.eqv z (.list (r.map PyData.int))) = _
    rw [any_rows r cs, eqv_ints]
    by_cases h1 : c = r
    · subst h1
      simp
    · by_cases h2 : r ∈ cs
      · simp [h2]
      · have : ¬ r = c := fun z => h1 z.symm
        simp [h1, h2, this]
theorem lay_rows : ∀ cs : List (List Int), PyData.canLayAll0 (dRows cs) = true
  | [] => rfl
  | c :: cs => by
    show (PyData.canLayAll0 (c.map PyData.int) && PyData.canLayAll0 (dRows cs)) = true
    rw [lay_rows cs, lays_ints c]
    rfl
theorem deep_rows : ∀ cs : List (List Int), PyData.depthAll (dRows cs) ≤ 2
  | [] => Nat.zero_le _
  | c :: cs => Nat.max_le.mpr ⟨Nat.add_le_add_right (deep_ints c) 1, deep_rows cs⟩
theorem shaped_rows (cs : List (List Int)) : SeqAt.shaped (.list (dRows cs)) = true := shaped_il (lay_rows cs) (Nat.le_trans (Nat.add_le_add_right (deep_rows cs) 1) (by decide))
theorem room65 {k : Nat} {A : Around} (r : Room k A) : A.units + 65 < cLine := by have := r.un; omega
def rLenK (K : PySem.W.Frag) : List V → Hp → VK → Prop := fun xs H Q => ∃ p ys, xs = [V.ref p] ∧ (SqL K H p ys ∨ SqT K H p ys) ∧ Q (V.int (ys.length : Nat)) H
theorem call_lenK {X : Cx} : CallR X (.builtin "len") (rLenK X.K) := call_len_seq
def rListK (K : PySem.W.Frag) : List V → Hp → VK → Prop := fun xs H Q => ∃ p ys, xs = [V.ref p] ∧ (SqL K H p ys ∨ SqT K H p ys) ∧ ∀ l, H l = none → Q (.ref l) (upd H l (.lst ys))
theorem call_listK {X : Cx} : CallR X (.type "list") (rListK X.K) := call_list_of
/-- kept by what turns the source alone -/
theorem RowsAt.keep {H H' : Hp} {l d : Addr} (k : ∀ b o, H b = some o → b ≠ l → b ≠ d → H' b = some o) : ∀ {as : List Addr} {cs : List (List Int)}, RowsAt H as cs → l ∉ as → d ∉ as → RowsAt H' as cs
  | [], [], _, _, _ => trivial
  | a :: _, _ :: _, h, n1, n2 => ⟨k _ _ h.1 (fun z => n1 (by rw [z]; exact List.mem_cons_self ..)) (fun z => n2 (by rw [z]; exact List.mem_cons_self ..)), RowsAt.keep k h.2 (fun z => n1 (List.mem_cons_of_mem _ z)) (fun z => n2 (List.mem_cons_of_mem _ z))⟩
  | [], _ :: _, h, _, _ => h.elim
  | _ :: _, [], h, _, _ => h.elim
end Sq

set_option Elab.async false
set_option linter.all false
set_option maxRecDepth 100000
set_option maxHeartbeats 1000000
/-! range(lo, hi) of ints of any size; order of lists; list(g(..)). -/
namespace L2
open PySem PySem.Spec PyProof.Rows
theorem turn_long {P : Program} {w : World} {K : PySem.W.Frag} {tg : Expr} (it : Addr) (lo : Int) (n : Nat) : Turn P w K tg (Itr lo n) [it] it (fun i h => IsLongIter h it (lo + (i : Nat) * 1) ((n : Int) - (i : Nat)) 1) where
  mem := by simp
  obj := fun i h st b hb => by
    have e : b = it := by simpa using hb
    subst e
    exact ⟨_, st, fun v z => by
      have z' : Data.fields _ = Data.cell v := z
      cases z'⟩
  keep := fun i h h' st k => k it (by simp) _ st
  item := by
    intro X hP hw hK hc i pins s σ H E I hf st hg
    subst hP hw hK
    obtain ⟨f0, f1, f2, f3, f4, f5⟩ := hf it (by simp)
    have W := Walks.longrange (prog := X.prog) (w := X.w) (I.ok.hd hc) it lo 1 n
    refine W.item i s _ _ hg st fun v h' tk hv st' kk => ?_
    obtain ⟨t, rfl⟩ := hv
    have I1 : Inv X pins σ H { s with heap := h', toks := tk } := I.turned (fun b o hb e => kk b o (by simpa using hb) e) f0 f1 f3 f4 f5
    refine ⟨_, rfl, go_of (s := { s with heap := h', toks := tk }) (n := "longrange_iterator") st' rfl rfl (by decide) ⟨.int (lo + i), H, I1, ⟨t, ?_⟩, ⟨rfl, rfl⟩, st', fun b hb => (hf b hb).1⟩⟩
    rw [Int.mul_one]
  done := by
    intro X hP hw hK hc i pins s σ H E I hf st hg
    subst hP hw hK
    obtain ⟨f0, f1, f2, f3, f4, f5⟩ := hf it (by simp)
    exact wpAny_pyNext_long_end (I.ok.hd hc) st (by have : n ≤ i := hg; omega) fun h' eb => ⟨rfl, I.turned (t' := s.toks) (fun b o hb e => eb b o hb e) f0 f1 f3 f4 f5⟩
  self := fun _ _ _ _ _ st h => wpAny_pyIter_longiter st h
section
variable {X : Cx} {tg : Expr}
theorem range_itW {pins : List (Addr × Obj)} {σ : St} {H : Hp} {s : Shared} {R : It → Hp → Prop} {E : Value → Shared → Prop} {lo hi : Int} {t u v : Tok} {tk : Nat} (I : Inv X pins σ H s)
    (q : R (Itr lo (hi - lo).toNat) H) : wpAny (model X.prog X.w) X.A (pyIter (.ref s.heap.objs.size)) (PIE X pins σ tg R) E { s with heap := s.heap.push { cls := .type "range", data := .fields #[.int lo t, .int hi u, .int 1 v] }, toks := tk } := by
  have I1 : Inv X pins σ H { s with heap := s.heap.push { cls := .type "range", data := .fields #[.int lo t, .int hi u, .int 1 v] }, toks := tk } := I.kept fun b o e => Heap.get?_push_of_some _ e
  have e1 : lo + ((0 : Nat) : Int) * 1 = lo := by simp
  have e2 : (((hi - lo).toNat : Nat) : Int) - ((0 : Nat) : Int) = Builtin.Range.rangeSize lo hi 1 := by rw [rangeSize_one]; split <;> omega
  by_cases hsm : Builtin.Range.small lo hi 1 = true
  · refine wpAny_pyIter_range (IsRange.new ..) hsm ?_
    refine ⟨(s.heap.push { cls := .type "range", data := .fields #[.int lo t, .int hi u, .int 1 v] }).objs.size, [(s.heap.push { cls := .type "range", data := .fields #[.int lo t, .int hi u, .int 1 v] }).objs.size], _, _, H, rfl,
      I1.kept (t' := tk) fun b o e => Heap.get?_push_of_some _ e, turn_range _ lo (hi - lo).toNat, ?_, fun b hb => ?_, q⟩
    · show IsRangeIter _ _ (lo + ((0 : Nat) : Int) * 1) ((((hi - lo).toNat : Nat) : Int) - ((0 : Nat) : Int)) 1
      rw [e1, e2]
      exact Heap.get?_push_size _ rfl
    · have e : b = (s.heap.push { cls := .type "range", data := .fields #[.int lo t, .int hi u, .int 1 v] }).objs.size := by simpa using hb
      subst e
      exact I1.fpOk (Nat.le_refl _) (I1.hok.fresh (Nat.le_refl _))
  · refine wpAny_pyIter_longrange (IsRange.new ..) (by simpa using hsm) ?_
    refine ⟨(s.heap.push { cls := .type "range", data := .fields #[.int lo t, .int hi u, .int 1 v] }).objs.size, [(s.heap.push { cls := .type "range", data := .fields #[.int lo t, .int hi u, .int 1 v] }).objs.size], _, _, H, rfl,
      I1.kept (t' := tk) fun b o e => Heap.get?_push_of_some _ e, turn_long _ lo (hi - lo).toNat, ?_, fun b hb => ?_, q⟩
    · show IsLongIter _ _ (lo + ((0 : Nat) : Int) * 1) ((((hi - lo).toNat : Nat) : Int) - ((0 : Nat) : Int)) 1
      rw [e1, e2]
      exact Heap.get?_push_size _ rfl
    · have e : b = (s.heap.push { cls := .type "range", data := .fields #[.int lo t, .int hi u, .int 1 v] }).objs.size := by simpa using hb
      subst e
      exact I1.fpOk (Nat.le_refl _) (I1.hok.fresh (Nat.le_refl _))
def iRng2W (ta : TA) : TI := fun σ H R => ta σ H fun vs H1 => ∃ i j : Int, vs = [.int i, .int j] ∧ R (Itr i (j - i).toNat) H1
theorem pi_range2W {a b : Expr} {ta : TA} {p pos : Pos} (hg : Gl X "range") (hm : X.mg "range" = none) (ha : PA X [a, b] ta) (hs : starEach [a, b] X.env = [(false, eval a X.env), (false, eval b X.env)] := by rfl) (hs2 : starEach [b] X.env = [(false, eval b X.env)] := by rfl) :
    PI X tg (.Call (.Name "range" p) [a, b] [] pos) (iRng2W ta) := by
  refine ⟨fun pins s σ H R I h => ?_⟩
  refine Call_ (ld_blt I hg hm boot_range (PyProof.Rows.callWith_type1 (thn (ha.run pos pins s σ H _ I h) fun us s1 ⟨vs, H1, I1, r1, q1⟩ => ?_) (by rw [hs, hs2]) (by rw [hs2]; rfl)))
  obtain ⟨i, j, e, q⟩ := q1
  subst e
  cases r1 with
  | cons r rr =>
    cases rr with
    | cons r' rr =>
      cases rr
      obtain ⟨t, rfl⟩ := r
      obtain ⟨t', rfl⟩ := r'
      exact call_range_2 (range_itW I1 q)
end
end L2

set_option Elab.async false
set_option linter.all false
set_option maxRecDepth 100000
set_option maxHeartbeats 1000000
namespace Sq
open PySem PySem.Spec PyProof.Rows L2
/-! ### generator defs -/
theorem passG {X : Cx} : Passes (CX X.prog X.w) X E0 := fun pins σ H s e s' I h => by
  obtain ⟨a, B, H', cls, d, _, _, _, _, _, _, _, z⟩ := h
  exact z.elim
structure Dg (P : Program) (w : World) (K : PySem.W.Frag) (mg : Str → Option Value) (base : Heap) (k : Nat) (x : Str) (ps : List Str) (sp : SpG) : Prop where
  ex : ∃ f fd, GFn P w K mg base k f fd ps sp ∧ mg x = some (.ref f) ∧ PySem.W.keepIn K (.ref f) = true ∧ Binds K fd ps []
section
variable {X : Cx} {k : Nat} {ps : List Str} {sp : SpG} {x : Str} {p pos lp lpos : Pos} {e : Expr} {es : List Expr} {t : TA}
theorem pe_listGD (D : Dg X.prog X.w X.K X.mg X.base k x ps sp) (hr : Room (k + 3) X.A) (hg : Gl X x) (hl : Gl X "list") (hm : X.mg "list" = none) (ha : PA X (e :: es) t) (hdb : (x == ("__debug__" : Str)) = false := by decide)
    (he : starEach (e :: es) X.env = (false, eval e X.env) :: starEach es X.env := by rfl) (hpl : (backTo pos (starEach es X.env)).any (·.1) = false := by rfl)
    (he2 : starEach [.Call (.Name x p) (e :: es) [] pos] X.env = (false, eval (.Call (.Name x p) (e :: es) [] pos) X.env) :: starEach [] X.env := by rfl) :
    PE X (.Call (.Name "list" lp) [.Call (.Name x p) (e :: es) [] pos] [] lpos) (tListG (tCallG sp [] E0 t)) := by
  obtain ⟨f, fd, F, g, kp, b⟩ := D.ex
  exact pe_listG (pgen_call F (hr.mono (by omega)) hg g kp b .nil ha hdb he hpl) passG (fun _ _ _ h => h.elim) hr hl hm (by decide +kernel) (by decide) (by decide) he2
end
/-! ### x <= y of lists -/
def rLeDc (K : PySem.W.Frag) : R2 := fun x y H Q => ∃ d e, Dp K H x d ∧ Dp K H y e ∧ PySem.W.alike d e = true ∧ d ≠ .none ∧ d.depth ≤ 64 ∧ Q (.bl (!PySem.W.dataLt e d)) H
theorem op_leDc {X : Cx} (hu : X.A.units + 64 < cLine) : OpR X (compareOp .LtE) (rLeDc X.K) := by
  intro pins s σ H x y v u Q I rx ry h
  obtain ⟨d, e, hd, he, al, nn, dep, q⟩ := h
  obtain ⟨as, r1⟩ := Dp.reads I d x v hd rx
  obtain ⟨bs, r2⟩ := Dp.reads I e y u he ry
  exact PySem.W.le_data r1 r2 al nn (by omega) ⟨.bl _, H, I, rfl, q⟩
theorem alike_ints : ∀ (xs ys : List Int), PySem.W.alikeAll (xs.map PyData.int) (ys.map PyData.int) = true
  | [], _ => by cases ‹List Int› <;> rfl
  | _ :: _, [] => rfl
  | x :: xs, y :: ys => by
    show (PySem.W.alike (.int x) (.int y) && PySem.W.alikeAll (xs.map PyData.int) (ys.map PyData.int)) = true
    rw [alike_ints xs ys]
    rfl
theorem lt_lx : ∀ {xs ys : List Int}, Lx xs ys → PySem.W.dataLt (.list (xs.map PyData.int)) (.list (ys.map PyData.int)) = true
  | x :: xs, y :: ys, h => by
    show lexLt itemOrd (.inl 1 :: (.inl x :: PySem.W.keyToksAll (xs.map PyData.int))) (.inl 1 :: (.inl y :: PySem.W.keyToksAll (ys.map PyData.int))) = true
    rw [lex_self]
    rcases h with h | ⟨rfl, h⟩
    · rw [lex_diff (fun z => by injection z with z; omega)]
      exact decide_eq_true h
    · rw [lex_self]
      exact lt_lx h
  | [], _, h => h.elim
  | _ :: _, [], h => h.elim
end Sq

set_option Elab.async false
set_option linter.all false
/-! A statement told apart from what follows. -/
namespace Sq
open PySem PySem.Spec PyProof.Rows L2
theorem seqNx {t u : TS} {D : Ends} {r : VK} {b c : L2.St → Hp → Prop} {σ : L2.St} {H : Hp} (h : tSeq t u D σ H) : Ends.nx { nx := tSeq t u D, rt := r, bk := b, ct := c } σ H := h
theorem tellSeq {t u : TS} {D : Ends} {σ : L2.St} {H : Hp} (T : L2.St → Hp → Prop) (h : ∀ N : L2.St → Hp → Prop, (∀ σ2 H2, T σ2 H2 → N σ2 H2) → t { D with nx := N } σ H) (hT : ∀ σ2 H2, T σ2 H2 → u D σ2 H2) : tSeq t u D σ H := h (u D) hT
theorem tellNx {t u : TS} {D : Ends} {r : VK} {b c : L2.St → Hp → Prop} {σ : L2.St} {H : Hp} (T : L2.St → Hp → Prop) (h : ∀ N : L2.St → Hp → Prop, (∀ σ2 H2, T σ2 H2 → N σ2 H2) → t { D with nx := N } σ H) (hT : ∀ σ2 H2, T σ2 H2 → u D σ2 H2) : Ends.nx { nx := tSeq t u D, rt := r, bk := b, ct := c } σ H := h (u D) hT
end Sq
namespace Sq
open PySem PySem.Spec PyProof.Rows L2
/-- for .. in range(a if c else b) -/
theorem seq_for_if {c : TT} {a b : Int} {g : TG} {tb u : TS} {D : Ends} {σ : L2.St} {H : Hp} (k : Bool) (h : ∀ Q' : Bool → Hp → Prop, Q' k H → c σ H Q') (ba : -(2 ^ 62) ≤ a ∧ a < 2 ^ 62) (bb : -(2 ^ 62) ≤ b ∧ b < 2 ^ 62)
    (q : tFor (fun _ H R => R (Itr 0 (if k = true then a else b).toNat) H) g tb { D with nx := u D } σ H) : tSeq (tFor (iRng1 (tCons (tIf c (tC (.int a)) (tC (.int b))) tNil)) g tb) u D σ H := by
  cases k with
  | true => exact h _ ⟨a, rfl, ba.1, ba.2, q⟩
  | false => exact h _ ⟨b, rfl, bb.1, bb.2, q⟩
theorem atI_last2 {α : Type} (xs : List α) (v w : α) : atI (xs ++ [v, w]) (-2) = some v := by
  have hl : (xs ++ [v, w]).length = xs.length + 2 := by simp
  have e : ixN (xs ++ [v, w]).length (-2) = some xs.length := by
    unfold ixN
    rw [hl, if_neg (by decide), if_pos (by omega)]
    congr 1
    omega
  unfold atI
  rw [e]
  show (xs ++ [v, w])[xs.length]? = some v
  simp
theorem cut_take (xs : List V) (n : Nat) (h : n ≤ xs.length) : cutV xs none (some (n : Int)) = xs.take n := by
  unfold cutV
  rw [HT.sIx_nat, HT.sIx_none, List.drop_zero, Nat.min_eq_left h, Nat.sub_zero]
end Sq


set_option Elab.async false
set_option linter.all false
set_option maxRecDepth 100000
set_option maxHeartbeats 2000000
namespace Sq
open PySem PySem.Spec PyProof.Rows L2
/-! ### the text -/
def topS (i : Nat) : Stmt := PySem.Challenge.pw_squeezelists_k08_great_best_lists.main.body.getD i (.Pass ⟨0, 0, 0, 0⟩)
abbrev s_checklist : Stmt := topS 5
theorem sc_checklist : FnScope ["replacements", "index", "number"] ["replacements"] (defScope s_checklist) := ⟨rfl, rfl, rfl, by decide +kernel, rfl, by decide +kernel, by decide +kernel⟩
abbrev s_checknumber : Stmt := topS 6
theorem sc_checknumber : FnScope ["number", "least"] ["number", "least"] (defScope s_checknumber) := ⟨rfl, rfl, rfl, by decide +kernel, rfl, by decide +kernel, by decide +kernel⟩
abbrev s_reach : Stmt := topS 8
theorem sc_reach : FnScope ["replacements", "most", "longest", "number"] ["replacements", "most"] (defScope s_reach) := ⟨rfl, rfl, rfl, by decide +kernel, rfl, by decide +kernel, by decide +kernel⟩
abbrev s_bestreach : Stmt := topS 9
theorem sc_bestreach : FnScope ["steps", "most", "longest", "_"] ["steps", "most"] (defScope s_bestreach) := ⟨rfl, rfl, rfl, by decide +kernel, rfl, by decide +kernel, by decide +kernel⟩
abbrev s_feweststeps : Stmt := topS 10
theorem sc_feweststeps : FnScope ["length", "most", "steps", "longest"] ["length", "most"] (defScope s_feweststeps) := ⟨rfl, rfl, rfl, by decide +kernel, rfl, by decide +kernel, by decide +kernel⟩
abbrev s_reachwith : Stmt := topS 12
theorem sc_reachwith : FnScope ["number", "longest"] ["number", "longest"] (defScope s_reachwith) := ⟨rfl, rfl, rfl, by decide +kernel, rfl, by decide +kernel, by decide +kernel⟩
abbrev s_bestnumbers : Stmt := topS 13
theorem sc_bestnumbers : FnScope ["longest", "low", "high"] ["longest"] (defScope s_bestnumbers) := ⟨rfl, rfl, rfl, by decide +kernel, rfl, by decide +kernel, by decide +kernel⟩
abbrev s_greatestreachwithone : Stmt := topS 14
theorem sc_greatestreachwithone : FnScope ["longest"] ["longest"] (defScope s_greatestreachwithone) := ⟨rfl, rfl, rfl, by decide +kernel, rfl, by decide +kernel, by decide +kernel⟩
abbrev s_bestchoices : Stmt := topS 15
theorem sc_bestchoices : FnScope ["steps", "most", "choices", "longest", "_"] ["steps", "most"] (defScope s_bestchoices) := ⟨rfl, rfl, rfl, by decide +kernel, rfl, by decide +kernel, by decide +kernel⟩
abbrev s_listat : Stmt := topS 16
theorem sc_listat : FnScope ["choices", "place", "found", "rest", "numbers"] ["choices", "place"] (defScope s_listat) := ⟨rfl, rfl, rfl, by decide +kernel, rfl, by decide +kernel, by decide +kernel⟩
abbrev s_lawsource : Stmt := topS 18
theorem sc_lawsource : FnScope ["script", "mix", "digits", "cell", "span"] ["script"] (defScope s_lawsource) := ⟨rfl, rfl, rfl, by decide +kernel, rfl, by decide +kernel, by decide +kernel⟩
abbrev s_lawdraw : Stmt := topS 19
theorem sc_lawdraw : FnScope ["source", "many", "drawn", "mixed"] ["source", "many"] (defScope s_lawdraw) := ⟨rfl, rfl, rfl, by decide +kernel, rfl, by decide +kernel, by decide +kernel⟩
abbrev s_lawsame : Stmt := topS 20
theorem sc_lawsame : FnScope ["found", "wanted", "k"] ["found", "wanted"] (defScope s_lawsame) := ⟨rfl, rfl, rfl, by decide +kernel, rfl, by decide +kernel, by decide +kernel⟩
abbrev s_lawleastrun : Stmt := topS 23
theorem sc_lawleastrun : FnScope ["row", "goal", "one", "rest"] ["row", "goal"] (defScope s_lawleastrun) := ⟨rfl, rfl, rfl, by decide +kernel, rfl, by decide +kernel, by decide +kernel⟩
abbrev s_lawmostof : Stmt := topS 24
theorem sc_lawmostof : FnScope ["reached", "low", "high", "middle", "one"] ["reached"] (defScope s_lawmostof) := ⟨rfl, rfl, rfl, by decide +kernel, rfl, by decide +kernel, by decide +kernel⟩
abbrev s_lawlistsright : Stmt := topS 25
theorem sc_lawlistsright : FnScope ["source", "many", "goal", "due", "even", "rows", "saved", "power", "time", "falls", "reaches_here", "row", "at", "more", "told", "spot"] ["source", "many", "goal", "due", "even"] (defScope s_lawlistsright) := ⟨rfl, rfl, rfl, by decide +kernel, rfl, by decide +kernel, by decide +kernel⟩
abbrev s_lawstepsright : Stmt := topS 26
theorem sc_lawstepsright : FnScope ["source", "goal", "bests", "time", "at", "run", "one"] ["source", "goal", "bests"] (defScope s_lawstepsright) := ⟨rfl, rfl, rfl, by decide +kernel, rfl, by decide +kernel, by decide +kernel⟩
abbrev s_law : Stmt := topS 27
theorem sc_law : FnScope ["script", "source", "k", "goal", "many", "bests", "step", "even", "one", "steps_here"] ["script"] (defScope s_law) := ⟨rfl, rfl, rfl, by decide +kernel, rfl, by decide +kernel, by decide +kernel⟩
abbrev s_bestlists : Stmt := topS 11
theorem sc_bestlists : GScope ["steps", "most", "choices", "many", "numbers", "place"] ["steps", "most"] (defScope s_bestlists) := ⟨rfl, rfl, rfl, by decide +kernel, rfl, by decide +kernel, by decide +kernel⟩
/-- the built-in names are the built-ins' -/
structure Bi (mg : Str → Option Value) : Prop where
  n_len : mg "len" = none
  n_min : mg "min" = none
  n_max : mg "max" = none
  n_range : mg "range" = none
  n_isinstance : mg "isinstance" = none
  n_sorted : mg "sorted" = none
  n_repr : mg "repr" = none
  n_enumerate : mg "enumerate" = none
  n_reversed : mg "reversed" = none
  n_bool : mg "bool" = none
  n_int : mg "int" = none
  n_str : mg "str" = none
  n_list : mg "list" = none
  n_tuple : mg "tuple" = none
end Sq

set_option Elab.async false
set_option linter.all false
set_option maxRecDepth 100000
set_option maxHeartbeats 2000000
namespace Sq
open PySem PySem.Spec PyProof.Rows L2
/-! ### the source of draws: at l, its digits at d -/
def M61 : Int := 2305843009213693951
structure Src (H : Hp) (l d : Addr) (mix cnt : Int) : Prop where
  ob : ∃ cur ds, H l = some (.lst [.ref d, .int cur, .int mix, .int cnt]) ∧ H d = some (.lst (List.map V.int ds))
  m0 : 0 ≤ mix
  m1 : mix < M61
  c0 : 0 ≤ cnt
  ne : l ≠ d
/-- all but the two lists is as it was -/
def Keep (H H' : Hp) (l d : Addr) : Prop := ∀ b o, H b = some o → b ≠ l → b ≠ d → H' b = some o
theorem Keep.refl (H : Hp) (l d : Addr) : Keep H H l d := fun _ _ h _ _ => h
theorem Keep.trans {H H1 H2 : Hp} {l d : Addr} (a : Keep H H1 l d) (b : Keep H1 H2 l d) : Keep H H2 l d := fun c o h n1 n2 => b c o (a c o h n1 n2) n1 n2
theorem Keep.of {H H' : Hp} {l d : Addr} (s : Same H H') : Keep H H' l d := fun b o h _ _ => s b o h
theorem Keep.l {H H' : Hp} {l d : Addr} {o : HO} (a : Keep H H' l d) : Keep H (upd H' l o) l d := fun c x h n1 n2 => by
  rw [upd_ne n1]
  exact a c x h n1 n2
theorem Keep.d {H H' : Hp} {l d : Addr} {o : HO} (a : Keep H H' l d) : Keep H (upd H' d o) l d := fun c x h n1 n2 => by
  rw [upd_ne n2]
  exact a c x h n1 n2
theorem Keep.new {H H' : Hp} {l d p : Addr} {o : HO} (a : Keep H H' l d) (h : H' p = none) : Keep H (upd H' p o) l d := a.trans (Keep.of (same_new h))
theorem Keep.seq {K : PySem.W.Frag} {H H' : Hp} {a l d : Addr} {xs : List V} (e : Keep H H' l d) (n1 : a ≠ l) (n2 : a ≠ d) (h : SqL K H a xs) : SqL K H' a xs := by
  rcases h with (h | ⟨o, h⟩) | h
  · exact .inl (.inl (e _ _ h n1 n2))
  · exact .inl (.inr ⟨o, e _ _ h n1 n2⟩)
  · exact .inr h
theorem Src.same {H H' : Hp} {l d : Addr} {mix cnt : Int} (S : Src H l d mix cnt) (s : Same H H') : Src H' l d mix cnt :=
  let ⟨cur, ds, h1, h2⟩ := S.ob
  ⟨⟨cur, ds, s _ _ h1, s _ _ h2⟩, S.m0, S.m1, S.c0, S.ne⟩
def spDraw : Sp := fun vs H Q _ => ∃ (l d : Addr) (mix cnt many : Int), vs = [.ref l, .int many] ∧ Src H l d mix cnt ∧ cnt < 1000000 ∧ 0 < many ∧ many.natAbs < 2 ^ 200 ∧
  ∀ z cnt' H', 0 ≤ z → z < many → Src H' l d mix cnt' → cnt' ≤ cnt + 1 → Keep H H' l d → Q (.int z) H'
theorem m61_small (x : Int) : (x % ((2 : Int) ^ (61 : Int).toNat - 1)).natAbs < 2 ^ 64 := by
  have h1 := Int.emod_nonneg x (show (2 : Int) ^ (61 : Int).toNat - 1 ≠ 0 by decide)
  have h2 := Int.emod_lt_of_pos x (show 0 < (2 : Int) ^ (61 : Int).toNat - 1 by decide)
  have e : (2 : Int) ^ (61 : Int).toNat - 1 = 2305843009213693951 := by decide
  rw [e] at h1 h2 ⊢
  omega
theorem Keep.free {H H' : Hp} {l d p : Addr} {mix cnt : Int} (k : Keep H H' l d) (S : Src H' l d mix cnt) (h : H' p = none) : H p = none := by
  obtain ⟨cur, ds, h1, h2⟩ := S.ob
  cases e : H p with
  | none => rfl
  | some o =>
    have := k p o e (fun z => by rw [z, h1] at h; cases h) (fun z => by rw [z, h2] at h; cases h)
    rw [h] at this
    cases this
theorem Src.nel {H : Hp} {l d p : Addr} {mix cnt : Int} (S : Src H l d mix cnt) (h : H p = none) : p ≠ l := fun z => by
  obtain ⟨cur, ds, h1, h2⟩ := S.ob
  rw [z, h1] at h
  cases h
theorem Src.ned {H : Hp} {l d p : Addr} {mix cnt : Int} (S : Src H l d mix cnt) (h : H p = none) : p ≠ d := fun z => by
  obtain ⟨cur, ds, h1, h2⟩ := S.ob
  rw [z, h2] at h
  cases h
section
variable {P : Program} {w : World} {K : PySem.W.Frag} {mg : Str → Option Value} {base : Heap}
theorem ok_lawdraw {f : Addr} {fd : FuncData} (F : Fun K "_law_draw" "_law_draw" s_lawdraw f fd) : FnOk P w K mg base CX0 1 f fd ["source", "many"] spDraw := by
  refine F.ok sc_lawdraw (fun vs H Q E h => ?_) (fun cdv A outer s H vs Q E hr h => ?_)
  · obtain ⟨l, d, mix, cnt, many, rfl, _⟩ := h
    rfl
  · obtain ⟨l, d, mix, cnt, many, rfl, S, hc, hm, hw, q⟩ := h
    refine ⟨_, (pss_cons (ps_while PassesOwn.never (PW.pt (pw_and (pt_cmpR op_lt (pe_ix (r := rIxL K) ix_list (pv 0) pe_int (fun _ _ => rfl)) pe_int (nomark _)) (pw_and1 (pt_cmpR (op_neD hr.units) (pe_ix (r := rIxL K) ix_list (pv 0) pe_int (fun _ _ => rfl)) (pe_lst pa_nil) (nomark _)))))
 (pss_one (ps_asg (pe_bm PySem.F.plainAttrs_list PySem.F.slot_list_pop PySem.F.type_list_pop mt_popAt (pe_ix (r := rIxL K) ix_list (pv 0) pe_int (fun _ _ => rfl)) (pa_cons pe_int pa_nil)) (pg_sub (pv 0) pe_int set_list))))
 (pss_cons (ps_if (pt_cmpR op_ge (pe_ix (r := rIxL K) ix_list (pv 0) pe_int (fun _ _ => rfl)) pe_int (nomark _))
 (pss_cons (ps_set (i := 2) sc_lawdraw.nd rfl (Or.inl rfl) (pe_op op_mod (pe_ix (r := rIxL K) ix_list (pv 0) pe_int (fun _ _ => rfl)) (pv 1)))
 (pss_cons (ps_asg (pe_op op_fdivW (pe_ix (r := rIxL K) ix_list (pv 0) pe_int (fun _ _ => rfl)) (pv 1)) (pg_sub (pv 0) pe_int set_list))
 (pss_one (ps_ret (pv 2)))))
 pss_nil)
 (pss_cons (ps_asg (pe_op op_add (pe_ix (r := rIxL K) ix_list (pv 0) pe_int (fun _ _ => rfl)) pe_int) (pg_sub (pv 0) pe_int set_list))
 (pss_cons (ps_set (i := 3) sc_lawdraw.nd rfl (Or.inl rfl) (pe_op op_mul (pe_op op_add (pe_ix (r := rIxL K) ix_list (pv 0) pe_int (fun _ _ => rfl)) pe_int) (pe_op op_pow (pe_op op_add (pe_ix (r := rIxL K) ix_list (pv 0) pe_int (fun _ _ => rfl)) pe_int) pe_int)))
 (pss_cons (ps_set (i := 3) sc_lawdraw.nd rfl (Or.inl rfl) (pe_op op_mod (pe_op op_add (pv 3) (pe_op op_mul pe_int (pe_ix (r := rIxL K) ix_list (pv 0) pe_int (fun _ _ => rfl)))) (pe_op op_sub (pe_op op_pow pe_int pe_int) pe_int)))
 (pss_one (ps_ret (pe_op op_mod (pe_op op_fdiv (pe_op op_mod (pe_op op_pow (pv 3) pe_int) (pe_op op_add (pe_op op_pow pe_int pe_int) pe_int)) pe_int) (pv 1))))))))), ?_⟩
    have c0 := S.c0
    have m0 := S.m0
    have m1 := S.m1
    have nld := S.ne
    -- while source[1] < 2 and source[0] != []
    obtain ⟨cur0, ds0, hl0, hd0⟩ := S.ob
    refine ⟨fun m σ H' => σ = [some (.ref l), some (.int many), none, none] ∧ Keep H H' l d ∧ ∃ cur ds, H' l = some (.lst [.ref d, .int cur, .int mix, .int cnt]) ∧ H' d = some (.lst (List.map V.int ds)) ∧ ds.length = m,
      ⟨_, rfl, Keep.refl H l d, cur0, ds0, hl0, hd0, rfl⟩, ?_⟩
    rintro m σ H' ⟨rfl, kp, cur, ds, hl, hd, hm2⟩
    refine tell (fun H2 => Same H' H2 ∧ ds ≠ []) (fun H2 => Same H' H2) (fun Q' hT hF => ?_) (fun H2 h => ?_) (fun H2 h => ?_)
    · refine ⟨_, rfl, l, _, 1, _, rfl, rfl, SqL.of hl, rfl, cur, 2, rfl, rfl, _, rfl, ite2 (fun c1 => ?_) (fun c1 => hF _ (Same.refl _))⟩
      refine ⟨_, rfl, l, _, 0, _, rfl, rfl, SqL.of hl, rfl, Nat.zero_le _, fun p hp => ?_⟩
      have npd : d ≠ p := ne_of_none hd hp
      refine ⟨_, _, .lst (SqL.of (show (upd H' p (.lst [])) d = _ by rw [upd_ne npd]; exact hd)) (dp_ints ds), .lst (SqL.of upd_same) .nil, shaped_ints ds, shaped_ints [], _, rfl, ?_⟩
      cases ds with
      | nil => exact hF _ (same_new hp)
      | cons x r => exact hT _ ⟨same_new hp, List.cons_ne_nil _ _⟩
    · refine iteT ?_
      obtain ⟨sm, nn⟩ := h
      obtain ⟨x, r, rfl⟩ : ∃ x r, ds = x :: r := by
        cases ds with
        | nil => exact absurd rfl nn
        | cons x r => exact ⟨x, r, rfl⟩
      have hl2 := sm _ _ hl
      have hd2 := sm _ _ hd
      refine ⟨fun σ' H'' => σ' = [some (.ref l), some (.int many), none, none] ∧ Keep H H'' l d ∧ H'' l = some (.lst [.ref d, .int x, .int mix, .int cnt]) ∧ H'' d = some (.lst (List.map V.int r)), ?_, ?_⟩
      · rintro σ' H'' ⟨e1, e2, e3, e4⟩
        exact ⟨r.length, by rw [← hm2, List.length_cons]; omega, e1, e2, _, _, e3, e4, rfl⟩
      refine ⟨_, rfl, l, _, 0, _, rfl, rfl, SqL.of hl2, rfl, .inl ⟨rfl, _, SqL.of hd2⟩, d, _, 0, 0, .int x, rfl, rfl, hd2, by decide, by decide, seqIndex_of (Int.le_refl 0) (by rw [List.length_map, List.length_cons]; omega), rfl, ?_⟩
      refine ⟨_, rfl, l, _, 1, 1, rfl, rfl, (show (upd H2 d _) l = _ by rw [upd_ne nld]; exact hl2), rfl, ?_⟩
      refine ⟨rfl, ((kp.trans (.of sm)).d).l, upd_same, ?_⟩
      rw [upd_ne nld.symm, upd_same]
      rfl
    · refine iteF ?_
      have kp2 := kp.trans (Keep.of h)
      have hl2 := h _ _ hl
      have hd2 := h _ _ hd
      clear hl hd hl0 hd0 hm2
      refine ⟨_, rfl, l, _, 1, _, rfl, rfl, SqL.of hl2, rfl, cur, 2, rfl, rfl, _, rfl, ite2 (fun c1 => ?_) (fun c1 => ?_)⟩
      · -- drawn = source[1] % many
        refine ⟨_, rfl, l, _, 1, _, rfl, rfl, SqL.of hl2, rfl, _, rfl, cur, many, rfl, rfl, hm, ?_⟩
        refine ⟨_, rfl, l, _, 1, _, rfl, rfl, SqL.of hl2, rfl, _, rfl, cur, many, rfl, rfl, wide_div hm hw (by decide) (by decide), ?_⟩
        refine ⟨_, rfl, l, _, 1, 1, rfl, rfl, hl2, rfl, _, rfl, ?_⟩
        refine q _ cnt _ (Int.emod_nonneg _ (by omega)) (Int.emod_lt_of_pos _ hm) ⟨⟨cur / many, ds, upd_same, by rw [upd_ne nld.symm]; exact hd2⟩, m0, m1, c0, nld⟩ (by omega) kp2.l
      · refine ⟨_, rfl, l, _, 3, _, rfl, rfl, SqL.of hl2, rfl, cnt, 1, rfl, rfl, _, rfl, l, _, 3, 3, rfl, rfl, hl2, rfl, ?_⟩
        have hl3 : (upd H2 l (.lst [.ref d, .int cur, .int mix, .int (cnt + 1)])) l = some (.lst [.ref d, .int cur, .int mix, .int (cnt + 1)]) := upd_same
        have cc : (cnt + 1 + 3).natAbs < 2 ^ 64 := by omega
        refine ⟨_, rfl, l, _, 2, _, rfl, rfl, SqL.of hl3, rfl, mix, 7, rfl, rfl, _, rfl, l, _, 3, _, rfl, rfl, SqL.of hl3, rfl, cnt + 1, 3, rfl, rfl, cnt + 1 + 3, 3, rfl, rfl, ⟨by decide, by decide, cc⟩, mix + 7, _, rfl, rfl, .inl ⟨by omega, by unfold M61 at m1; omega⟩, ?_⟩
        refine ⟨_, rfl, _, rfl, l, _, 3, _, rfl, rfl, SqL.of hl3, rfl, 1000081, cnt + 1, rfl, rfl, .inl ⟨by decide, by decide⟩, _, _, rfl, rfl, 2, 61, rfl, rfl, ⟨by decide, by decide, by decide⟩, _, 1, rfl, rfl, _, _, rfl, rfl, (by decide : (0 : Int) < 2 ^ Int.toNat 61 - 1), ?_⟩
        refine ⟨_, rfl, _, 5, rfl, rfl, ⟨by decide, by decide, m61_small _⟩, 10, 18, rfl, rfl, ⟨by decide, by decide, by decide⟩, _, 9, rfl, rfl, _, _, rfl, rfl, (by decide : (0 : Int) < 10 ^ Int.toNat 18 + 9), _, 128, rfl, rfl, ⟨by decide, by decide⟩, _, rfl, _, many, rfl, rfl, hm, ?_⟩
        exact q _ (cnt + 1) _ (Int.emod_nonneg _ (by omega)) (Int.emod_lt_of_pos _ hm) ⟨⟨cur, ds, hl3, by rw [upd_ne nld.symm]; exact hd2⟩, m0, m1, by omega, nld⟩ (by omega) kp2.l
theorem m61_is : (2 : Int) ^ (61 : Int).toNat - 1 = M61 := by decide
def spSource (K : PySem.W.Frag) : Sp := fun vs H Q _ => ∃ (a : Addr) (ns : List Int), vs = [.ref a] ∧ SqL K H a (ns.map V.int) ∧ ns.length ≤ 63 ∧ ∀ l d mix H', H l = none → H d = none → Same H H' → Src H' l d mix 0 → Q (.ref l) H'
theorem ok_lawsource {f : Addr} {fd : FuncData} (F : Fun K "_law_source" "_law_source" s_lawsource f fd) (B : Bi mg) : FnOk P w K mg base CX0 1 f fd ["script"] (spSource K) := by
  refine F.ok sc_lawsource (fun vs H Q E h => ?_) (fun cdv A outer s H vs Q E hr h => ?_)
  · obtain ⟨a, ns, rfl, _⟩ := h
    rfl
  · obtain ⟨a, ns, rfl, hS, hn, q⟩ := h
    refine ⟨_, (pss_cons (ps_set (i := 1) sc_lawsource.nd rfl (Or.inl rfl) pe_int)
 (pss_cons (ps_set (i := 2) sc_lawsource.nd rfl (Or.inl rfl) (pe_lst pa_nil))
 (pss_cons (ps_for PassesOwn.never rfl (pi_list (pv 0)) (pg_name (i := 3) sc_lawsource.nd rfl (Or.inl rfl))
 (pss_cons (ps_set (i := 1) sc_lawsource.nd rfl (Or.inl rfl) (pe_op op_mod (pe_op op_add (pe_op op_mul (pv 1) pe_int) (pv 3)) (pe_op op_sub (pe_op op_pow pe_int pe_int) pe_int)))
 (pss_cons (ps_set (i := 4) sc_lawsource.nd rfl (Or.inl rfl) (pe_callB (id := "max") (call_max2 rfl) (by rfl) B.n_max (by decide +kernel) (pa_cons (pv 3) (pa_cons (pe_op op_sub pe_int (pv 3)) pa_nil))))
 (pss_one (ps_if (pt_cmpR op_ge (pv 4) (pe_op op_pow pe_int pe_int) (nomark _))
 (pss_one (ps_expr (pe_bm PySem.F.plainAttrs_list PySem.F.slot_list_append PySem.F.type_list_append mt_append (pv 2) (pa_cons (pe_op op_sub (pv 4) (pe_op op_pow pe_int pe_int)) pa_nil))))
 pss_nil)))))
 (pss_one (ps_ret (pe_lst (pa_cons (pv 2) (pa_cons pe_int (pa_cons (pv 1) (pa_cons pe_int pa_nil)))))))))), ?_⟩
    refine ⟨Nat.zero_le _, fun d hd => ?_⟩
    refine ⟨_, rfl, a, rfl, ⟨_, (same_new hd).seq hS⟩, for_list (K := K) (a := a) (xs := ns.map V.int) (fun i σ H' => Same H H' ∧ ∃ mix ds y3 y4, σ = [some (.ref a), some (.int mix), some (.ref d), y3, y4] ∧ 0 ≤ mix ∧ mix < M61 ∧ ds.length ≤ i ∧ H' d = some (.lst (List.map V.int ds)))
      ⟨same_new hd, 271828182845904, [], none, none, rfl, by decide, by decide, Nat.le_refl _, upd_same⟩ (fun i σ H' _ h => h.1.seq hS) ?_ ?_⟩
    · rintro i x σ H' hi ⟨sm, mix, ds, y3, y4, rfl, m0, m1, hlen, hdd⟩
      have hil : i < ns.length := by
        have := (List.getElem?_eq_some_iff.mp hi).1
        rwa [List.length_map] at this
      obtain ⟨c, hc, rfl⟩ := map_at hi
      refine ⟨_, rfl, mix, 1000033, rfl, rfl, .inr ⟨by decide, by decide⟩, _, rfl, _, c, rfl, rfl, 2, 61, rfl, rfl, ⟨by decide, by decide, by decide⟩, _, 1, rfl, rfl, _, _, rfl, rfl, (by decide : (0 : Int) < 2 ^ Int.toNat 61 - 1), ?_⟩
      rw [m61_is]
      have m0' : 0 ≤ (mix * 1000033 + c) % M61 := Int.emod_nonneg _ (by decide)
      have m1' : (mix * 1000033 + c) % M61 < M61 := Int.emod_lt_of_pos _ (by decide)
      refine ⟨_, rfl, _, rfl, 0, c, rfl, rfl, c, 0 - c, rfl, ?_⟩
      generalize (if 0 - c > c then 0 - c else c) = sp
      refine ⟨_, rfl, 10, 18, rfl, rfl, ⟨by decide, by decide, by decide⟩, _, _, rfl, rfl, _, rfl, ite2 (fun _ => ?_) (fun _ => ?_)⟩
      · refine ⟨_, rfl, .inl ⟨rfl, _, SqL.of hdd⟩, _, rfl, 10, 18, rfl, rfl, ⟨by decide, by decide, by decide⟩, _, _, rfl, rfl, d, _, _, rfl, rfl, hdd, (by rw [List.length_map]; exact small1000 (by omega)), ?_⟩
        refine ⟨fun b o e => ?_, (mix * 1000033 + c) % M61, ds ++ [sp - 10 ^ Int.toNat 18], _, _, rfl, m0', m1', by rw [List.length_append]; show ds.length + 1 ≤ i + 1; omega, ?_⟩
        · rw [upd_ne (ne_of_none e hd)]
          exact sm _ _ e
        · rw [upd_same, List.map_append]
          rfl
      · exact ⟨sm, (mix * 1000033 + c) % M61, ds, _, _, rfl, m0', m1', by omega, hdd⟩
    · rintro σ H' ⟨sm, mix, ds, y3, y4, rfl, m0, m1, hlen, hdd⟩
      refine ⟨_, rfl, _, rfl, (by show 4 ≤ sizeLine; exact Nat.le_of_lt (small1000 (by decide))), fun l hl => ?_⟩
      have ndl : d ≠ l := ne_of_none hdd hl
      refine q l d mix _ (sm.free hl) hd (sm.trans (same_new hl)) ⟨⟨0, ds, upd_same, by rw [upd_ne ndl]; exact hdd⟩, m0, m1, Int.le_refl 0, ndl.symm⟩

def spCheckList (K : PySem.W.Frag) : Sp := fun vs H Q _ => ∃ (a : Addr) (ks : List Int), vs = [.ref a] ∧ SqL K H a (ks.map V.int) ∧ (∀ k ∈ ks, 2 ≤ k) ∧ ∀ H', Same H H' → Q .non H'
theorem ok_checklist {f : Addr} {fd : FuncData} (F : Fun K "check_list" "check_list" s_checklist f fd) (B : Bi mg) : FnOk P w K mg base CX0 1 f fd ["replacements"] (spCheckList K) := by
  refine F.ok sc_checklist (fun vs H Q E h => ?_) (fun cdv A outer s H vs Q E hr h => ?_)
  · obtain ⟨a, ks, rfl, _⟩ := h
    rfl
  · obtain ⟨a, ks, rfl, hS, hk, q⟩ := h
    refine ⟨_, (pss_one (ps_for PassesOwn.never rfl (pi_enum (by rfl) B.n_enumerate (pa_cons (pv 0) pa_nil)) (pg_tup rfl (pgs_cons (pg_name (i := 1) sc_checklist.nd rfl (Or.inl rfl)) (pgs_cons (pg_name (i := 2) sc_checklist.nd rfl (Or.inl rfl)) pgs_nil)))
 (pss_one (ps_if (pt_cmpR op_lt (pv 2) pe_int (nomark _))
 (pss_one ps_never)
 pss_nil)))), ?_⟩
    refine ⟨_, rfl, a, ks.map V.int, rfl, hS, for_it walk_enum (fun i σ H' => Same H H' ∧ ∃ y z, σ = [some (.ref a), y, z]) ⟨Same.refl H, none, none, rfl⟩ (fun i σ H' _ h => h.1.seq hS) ?_ ?_⟩
    · rintro i σ H' v H2 hi ⟨sm, y, z, rfl⟩ ⟨T, x1, x2, rfl, nT, rfl, e1, e2⟩
      obtain ⟨k, hk', rfl⟩ := map_at e2
      cases e1
      refine ⟨T, _, rfl, .inl (.inl upd_same), rfl, _, _, rfl, _, _, rfl, rfl, ?_⟩
      refine ⟨_, rfl, _, _, rfl, rfl, _, rfl, ite2 (fun c => ?_) (fun c => ?_)⟩
      · have := hk k (List.mem_of_getElem? hk')
        have c' : k < 2 := of_decide_eq_true c
        omega
      · exact ⟨sm.trans (same_new nT), _, _, rfl⟩
    · rintro σ H' ⟨sm, y, z, rfl⟩
      exact q H' sm
def spCheckNumber : Sp := fun vs H Q _ => ∃ (n l : Int), vs = [.int n, .int l] ∧ l ≤ n ∧ Q .non H
theorem ok_checknumber {f : Addr} {fd : FuncData} (F : Fun K "check_number" "check_number" s_checknumber f fd) : FnOk P w K mg base CX0 1 f fd ["number", "least"] spCheckNumber := by
  refine F.ok sc_checknumber (fun vs H Q E h => ?_) (fun cdv A outer s H vs Q E hr h => ?_)
  · obtain ⟨n, l, rfl, _⟩ := h
    rfl
  · obtain ⟨n, l, rfl, hl, q⟩ := h
    refine ⟨_, (pss_one (ps_if (pt_cmpR op_lt (pv 0) (pv 1) (nomark _))
 (pss_one ps_never)
 pss_nil)), ?_⟩
    refine ⟨_, rfl, _, rfl, _, _, rfl, rfl, _, rfl, ite2 (fun c => ?_) (fun c => q)⟩
    have c' : n < l := of_decide_eq_true c
    omega
/-- the same data, of ints and lists; n: the other one's depth stays below it -/
def spSame (K : PySem.W.Frag) (n : Nat) : Sp := fun vs H Q _ => ∃ (x y : V) (d e : PyData), vs = [x, y] ∧ Dp K H x d ∧ Dp K H y e ∧ il d = true ∧ il e = true ∧ e.depth < n ∧ ∀ H', Same H H' → Q (.bl (PyData.eqv d e)) H'
theorem ok_lawsame_step {f : Addr} {fd : FuncData} {n : Nat} (F : Fun K "_law_same" "_law_same" s_lawsame f fd) (B : Bi mg) (D_lawsame : Df P w K mg base (n + 1) "_law_same" ["found", "wanted"] (spSame K n)) : FnOk P w K mg base CX0 (n + 2) f fd ["found", "wanted"] (spSame K (n + 1)) := by
  refine F.ok sc_lawsame (fun vs H Q E h => ?_) (fun cdv A outer s H vs Q E hr h => ?_)
  · obtain ⟨x, y, d, e, rfl, _⟩ := h
    rfl
  · obtain ⟨x, y, d, e, rfl, dx, dy, id', ie, hdep, q⟩ := h
    refine ⟨_, (pss_cons (ps_if (pt_cmpR op_isN (pv 1) pe_non (nomark _))
 (pss_one (ps_ret (pe_cmpR op_isN (pv 0) pe_non (nomark _))))
 pss_nil)
 (pss_cons (ps_if (pt_val (pe_callB (id := "isinstance") call_isi (by rfl) B.n_isinstance (by decide +kernel) (pa_cons (pv 1) (pa_cons (pe_bltn (v := .ty "bool") (by rfl) B.n_bool (by decide +kernel) rfl) pa_nil))))
 (pss_one (ps_ret (pe_and (pe_callB (id := "isinstance") call_isi (by rfl) B.n_isinstance (by decide +kernel) (pa_cons (pv 0) (pa_cons (pe_bltn (v := .ty "bool") (by rfl) B.n_bool (by decide +kernel) rfl) pa_nil))) (pe_one (pe_cmpR (op_eqD hr.units) (pv 0) (pv 1) (nomark _))))))
 pss_nil)
 (pss_cons (ps_if (pt_val (pe_callB (id := "isinstance") call_isi (by rfl) B.n_isinstance (by decide +kernel) (pa_cons (pv 1) (pa_cons (pe_bltn (v := .ty "int") (by rfl) B.n_int (by decide +kernel) rfl) pa_nil))))
 (pss_one (ps_ret (pe_and (pe_callB (id := "isinstance") call_isi (by rfl) B.n_isinstance (by decide +kernel) (pa_cons (pv 0) (pa_cons (pe_bltn (v := .ty "int") (by rfl) B.n_int (by decide +kernel) rfl) pa_nil))) (pe_and (pe_not (pe_callB (id := "isinstance") call_isi (by rfl) B.n_isinstance (by decide +kernel) (pa_cons (pv 0) (pa_cons (pe_bltn (v := .ty "bool") (by rfl) B.n_bool (by decide +kernel) rfl) pa_nil)))) (pe_one (pe_cmpR (op_eqD hr.units) (pv 0) (pv 1) (nomark _)))))))
 pss_nil)
 (pss_cons (ps_if (pt_val (pe_callB (id := "isinstance") call_isi (by rfl) B.n_isinstance (by decide +kernel) (pa_cons (pv 1) (pa_cons (pe_bltn (v := .ty "str") (by rfl) B.n_str (by decide +kernel) rfl) pa_nil))))
 (pss_one (ps_ret (pe_and (pe_callB (id := "isinstance") call_isi (by rfl) B.n_isinstance (by decide +kernel) (pa_cons (pv 0) (pa_cons (pe_bltn (v := .ty "str") (by rfl) B.n_str (by decide +kernel) rfl) pa_nil))) (pe_one (pe_cmpR (op_eqD hr.units) (pv 0) (pv 1) (nomark _))))))
 pss_nil)
 (pss_cons (ps_if (pt_cmpR op_ne (pe_callB (id := "isinstance") call_isi (by rfl) B.n_isinstance (by decide +kernel) (pa_cons (pv 0) (pa_cons (pe_bltn (v := .ty "list") (by rfl) B.n_list (by decide +kernel) rfl) pa_nil))) (pe_callB (id := "isinstance") call_isi (by rfl) B.n_isinstance (by decide +kernel) (pa_cons (pv 1) (pa_cons (pe_bltn (v := .ty "list") (by rfl) B.n_list (by decide +kernel) rfl) pa_nil))) (nomark _))
 (pss_one (ps_ret pe_bl))
 pss_nil)
 (pss_cons (ps_if (PW.pt (pw_or (pt_cmpR op_ne (pe_callB (id := "isinstance") call_isi (by rfl) B.n_isinstance (by decide +kernel) (pa_cons (pv 0) (pa_cons (pe_bltn (v := .ty "tuple") (by rfl) B.n_tuple (by decide +kernel) rfl) pa_nil))) (pe_callB (id := "isinstance") call_isi (by rfl) B.n_isinstance (by decide +kernel) (pa_cons (pv 1) (pa_cons (pe_bltn (v := .ty "tuple") (by rfl) B.n_tuple (by decide +kernel) rfl) pa_nil))) (nomark _)) (pw_or1 (pt_cmpR op_ne (pe_callB (id := "len") (r := rLenK K) call_lenK (by rfl) B.n_len (by decide +kernel) (pa_cons (pv 0) pa_nil)) (pe_callB (id := "len") (r := rLenK K) call_lenK (by rfl) B.n_len (by decide +kernel) (pa_cons (pv 1) pa_nil)) (nomark _)))))
 (pss_one (ps_ret pe_bl))
 pss_nil)
 (pss_one (ps_ret (pe_cmpR (op_eqD hr.units) (pe_lc (own := [("k", 2)]) (g := gName 2) rfl sc_lawsame.nd (pi_range1 (by rfl) B.n_range (pa_cons (pe_callB (id := "len") (r := rLenK K) call_lenK (by rfl) B.n_len (by decide +kernel) (pa_cons (pv 1) pa_nil)) pa_nil)) (blkOk_by (own := [("k", 2)]) (N := ["found", "wanted", "k"]) (sc := defScope s_lawsame) (by decide +kernel)) (fun _ _ _ _ _ => pg_name (i := 2) sc_lawsame.nd rfl (Or.inl rfl)) (fun _ _ _ _ _ => pts_one (pt_not (pt_val (pe_callD D_lawsame (hr.mono (by omega)) (by rfl) (pa_cons (pe_ix (r := rIxL K) ix_list (pv 0) (pv 2) (fun _ _ => rfl)) (pa_cons (pe_ix (r := rIxL K) ix_list (pv 1) (pv 2) (fun _ _ => rfl)) pa_nil)))))) (fun _ _ _ _ _ => (pv 2))) (pe_lst pa_nil) (nomark _)))))))))), ?_⟩
    match e, dy, ie, hdep, q with
    | .int j, .int _, _, _, q =>
      refine ⟨_, rfl, rfl, _, rfl, ite2 (fun c => by cases of_decide_eq_true c) (fun _ => ?_)⟩
      refine ⟨_, rfl, _, _, _, _, _, rfl, .ty _, (.base (.int j)), kit_ty (by decide +kernel), _, rfl, iteF ?_⟩
      refine ⟨_, rfl, _, _, _, _, _, rfl, .ty _, (.base (.int j)), kit_ty (by decide +kernel), _, rfl, iteT ?_⟩
      match d, dx, id' with
      | .int i, .int _, _ =>
        refine ⟨_, rfl, _, _, _, _, _, rfl, .ty _, (.base (.int i)), kit_ty (by decide +kernel), _, rfl, iteT ?_⟩
        refine ⟨_, rfl, _, _, _, _, false, rfl, .ty _, (.base (.int i)), kit_ty (by decide +kernel), _, rfl, _, rfl, iteT ?_⟩
        exact ⟨_, rfl, _, rfl, _, _, .int i, .int j, rfl, rfl, q H (Same.refl H)⟩
      | .list ds, .lst hs _, _ =>
        exact ⟨_, rfl, _, _, _, _, _, rfl, .ty _, (ty_seq hs), kit_ty (by decide +kernel), _, rfl, iteF (q H (Same.refl H))⟩
    | .list es, .lst (a := b) (xs := ys) hs hall, ie, hdep, q =>
      refine ⟨_, rfl, rfl, _, rfl, ite2 (fun c => by cases of_decide_eq_true c) (fun _ => ?_)⟩
      refine ⟨_, rfl, _, _, _, _, _, rfl, .ty _, (ty_seq hs), kit_ty (by decide +kernel), _, rfl, iteF ?_⟩
      refine ⟨_, rfl, _, _, _, _, _, rfl, .ty _, (ty_seq hs), kit_ty (by decide +kernel), _, rfl, iteF ?_⟩
      refine ⟨_, rfl, _, _, _, _, _, rfl, .ty _, (ty_seq hs), kit_ty (by decide +kernel), _, rfl, iteF ?_⟩
      match d, dx, id' with
      | .int i, .int _, _ =>
        refine ⟨_, rfl, _, _, _, _, false, rfl, .ty _, (.base (.int i)), kit_ty (by decide +kernel), _, rfl, _, _, _, _, true, rfl, .ty _, (ty_seq hs), kit_ty (by decide +kernel), rfl, _, rfl, iteT ?_⟩
        exact q H (Same.refl H)
      | .list ds, .lst (a := a) (xs := xs) hx hxa, id' =>
        have id2 := Bool.and_eq_true_iff.mp id'
        have ie2 := Bool.and_eq_true_iff.mp ie
        have l1 : ds.length ≤ 1000 := of_decide_eq_true id2.1
        have l2 : es.length ≤ 1000 := of_decide_eq_true ie2.1
        have lx := dp_len hxa
        have ly := dp_len hall
        refine ⟨_, rfl, _, _, _, _, true, rfl, .ty _, (ty_seq hx), kit_ty (by decide +kernel), _, rfl, _, _, _, _, true, rfl, .ty _, (ty_seq hs), kit_ty (by decide +kernel), rfl, _, rfl, iteF ?_⟩
        refine ⟨_, rfl, _, _, _, _, false, rfl, .ty _, (ty_seq hx), kit_ty (by decide +kernel), _, rfl, _, _, _, _, false, rfl, .ty _, (ty_seq hs), kit_ty (by decide +kernel), rfl, _, rfl, iteF ?_⟩
        refine ⟨_, rfl, a, xs, rfl, .inl hx, _, rfl, b, ys, rfl, .inl hs, rfl, _, rfl, ite2 (fun c => ?_) (fun c => ?_)⟩
        · have ne : ds.length ≠ es.length := fun z => by
            rw [lx, ly, z] at c
            simp at c
          have e0 : PyData.eqv (.list ds) (.list es) = false := eqv_lens ne
          rw [e0] at q
          exact q H (Same.refl H)
        · have eq : ds.length = es.length := by
            rw [lx, ly] at c
            simp at c
            omega
          refine ⟨_, rfl, b, ys, rfl, .inl hs, (ys.length : Int), rfl, by omega, by omega, fun D hD => lc_range (lo := 0) (n := (ys.length : Int).toNat)
            (fun i H' => Same H H' ∧ ∃ bad : List Int, H' D = some (.lst (bad.map V.int)) ∧ bad.length ≤ i ∧ (bad.isEmpty = PyData.eqvAll (ds.take i) (es.take i))) ⟨same_new hD, [], upd_same, Nat.le_refl _, rfl⟩ ?_ ?_⟩
          · rintro i H' hi ⟨sm, bad, hb, hbl, hbe⟩
            have hi' : i < es.length := by omega
            have g1 : ds[i]? = some ds[i] := List.getElem?_eq_getElem (by omega)
            have g2 : es[i]? = some es[i] := List.getElem?_eq_getElem hi'
            obtain ⟨v1, hv1, dv1⟩ := dp_at hxa g1
            obtain ⟨v2, hv2, dv2⟩ := dp_at hall g2
            have dep : (es[i]).depth < n := by
              have := depth_at g2
              have h3 : PyData.depthAll es + 1 < n + 1 := hdep
              omega
            refine ⟨rfl, _, rfl, _, rfl, a, xs, 0 + (i : Int), v1, rfl, rfl, sm.seq hx, at_of (by omega) hv1, _, rfl, _, rfl, b, ys, 0 + (i : Int), v2, rfl, rfl, sm.seq hs, at_of (by omega) hv2, ?_⟩
            refine ⟨v1, v2, _, _, rfl, Dp.same sm dv1, Dp.same sm dv2, il_at id2.2 g1, il_at ie2.2 g2, dep, fun H2 sm2 => ?_⟩
            have hb2 := sm2 _ _ hb
            have et := eqv_take g1 g2
            refine ⟨_, rfl, ?_⟩
            cases eb : PyData.eqv ds[i] es[i] with
            | true =>
              refine iteF ⟨sm.trans sm2, bad, hb2, by omega, ?_⟩
              rw [et, eb, Bool.and_true]
              exact hbe
            | false =>
              refine iteT ⟨_, rfl, _, hb2, by rw [List.length_map]; exact small1000 (by omega), fun p o e => ?_, bad ++ [(0 + (i : Int))], ?_, by rw [List.length_append]; show bad.length + 1 ≤ i + 1; omega, ?_⟩
              · rw [upd_ne (ne_of_none e hD)]
                exact sm2 _ _ (sm _ _ e)
              · rw [upd_same, List.map_append]
                rfl
              · rw [et, eb, Bool.and_false]
                cases bad <;> rfl
          · rintro H' ⟨sm, bad, hb, hbl, hbe⟩
            refine ⟨Nat.zero_le _, fun p hp => ?_⟩
            have npD : D ≠ p := ne_of_none hb hp
            refine ⟨_, _, .lst (SqL.of (show (upd H' p (.lst [])) D = _ by rw [upd_ne npD]; exact hb)) (dp_ints bad), .lst (SqL.of upd_same) .nil, shaped_ints bad, shaped_ints [], ?_⟩
            have e1 : ds.take (ys.length : Int).toNat = ds := List.take_of_length_le (by omega)
            have e2 : es.take (ys.length : Int).toNat = es := List.take_of_length_le (by omega)
            rw [e1, e2] at hbe
            have e3 : PyData.eqv (.list (bad.map PyData.int)) (.list []) = PyData.eqv (.list ds) (.list es) := by
              show PyData.eqvAll (bad.map PyData.int) [] = PyData.eqvAll ds es
              rw [← hbe]
              cases bad <;> rfl
            rw [e3]
            exact q _ (sm.trans (same_new hp))
theorem ok_lawsame {f : Addr} {fd : FuncData} (F : Fun K "_law_same" "_law_same" s_lawsame f fd) (B : Bi mg) (g : mg "_law_same" = some (.ref f)) (b : Binds K fd ["found", "wanted"] []) : ∀ n : Nat, FnOk P w K mg base CX0 (n + 1) f fd ["found", "wanted"] (spSame K n)
  | 0 => ⟨fun vs H Q E h => by obtain ⟨x, y, d, e, _, _, _, _, _, z, _⟩ := h; exact absurd z (Nat.not_lt_zero _), fun A outer s H args us vs Q E hr e0 hb hv h => by obtain ⟨x, y, d, e, _, _, _, _, _, z, _⟩ := h; exact absurd z (Nat.not_lt_zero _)⟩
  | n + 1 => ok_lawsame_step F B (.mk' F (ok_lawsame F B g b n) g b)
end
end Sq

set_option Elab.async false
set_option linter.all false
set_option maxRecDepth 100000
set_option maxHeartbeats 2000000
namespace Sq
open PySem PySem.Spec PyProof.Rows L2
/-! ### sizes -/
theorem bits3 {R : Int} {b : Nat} (hR : 1 ≤ R) (h : R.natAbs < 2 ^ b) : ∀ x : Int, 0 ≤ x → x ≤ R + 3 → x.natAbs < 2 ^ (b + 2) := fun x h0 h1 => by
  have e : 2 ^ (b + 2) = 4 * 2 ^ b := by rw [Nat.pow_add]; omega
  omega
theorem grow_bits {R : Int} {b : Nat} (hR : 1 ≤ R) (h : R.natAbs < 2 ^ b) : (grow R).natAbs < 2 ^ (2 * b) := by
  have l1 := low_ge hR
  have l2 := low_le hR
  have g : grow R = (R + 3 - low R) * low R - 2 := rw1_low (by omega)
  have gp := grow_pos hR
  have e1 := sq_gap R (low R)
  have d0 : 0 ≤ (2 * low R - (R + 3)) * (2 * low R - (R + 3)) := by
    by_cases c : 0 ≤ 2 * low R - (R + 3)
    · exact Int.mul_nonneg c c
    · have := Int.mul_nonneg (a := -(2 * low R - (R + 3))) (b := -(2 * low R - (R + 3))) (by omega) (by omega)
      rwa [Int.neg_mul_neg] at this
  obtain ⟨B, hB⟩ : ∃ B : Int, B = ((2 ^ b : Nat) : Int) := ⟨_, rfl⟩
  have r1 : R + 3 ≤ B + 2 := by omega
  have m1 : (R + 3) * (R + 3) ≤ (B + 2) * (B + 2) := Int.mul_le_mul r1 r1 (by omega) (by omega)
  have m2 : (B + 2) * (B + 2) = B * B + 4 * B + 4 := by
    simp only [Int.add_mul, Int.mul_add]
    omega
  have m3 : 2 * B ≤ B * B := Int.mul_le_mul_of_nonneg_right (by omega) (by omega)
  have e2 : ((2 ^ (2 * b) : Nat) : Int) = B * B := by
    rw [hB, Nat.two_mul, Nat.pow_add]
    push_cast
    rfl
  omega
theorem up_bits {v : Int} {b : Nat} (hv : 1 ≤ v) (h : v.natAbs < 2 ^ b) : ∀ n, (up n v).natAbs < 2 ^ (b * 2 ^ n)
  | 0 => by
    rw [Nat.pow_zero, Nat.mul_one]
    exact h
  | n + 1 => by
    have := grow_bits (up_pos hv n) (up_bits hv h n)
    rwa [show 2 * (b * 2 ^ n) = b * 2 ^ (n + 1) by rw [Nat.pow_succ, Nat.mul_left_comm, Nat.mul_comm 2]] at this
theorem pow_le_le {i n b c : Nat} (h : i ≤ n) (hb : b * 2 ^ n ≤ c) : b * 2 ^ i ≤ c := Nat.le_trans (Nat.mul_le_mul_left b (Nat.pow_le_pow_right (by decide) h)) hb
section
variable {P : Program} {w : World} {K : PySem.W.Frag} {mg : Str → Option Value} {base : Heap}
def spReachWith : Sp := fun vs H Q _ => ∃ (k R : Int), vs = [.int k, .int R] ∧ 2 ≤ k ∧ (k ≤ R + 1 → CMulW (R + 3 - k) k) ∧ Q (.int (rw1 k R)) H
theorem ok_reachwith {f : Addr} {fd : FuncData} (F : Fun K "reach_with" "reach_with" s_reachwith f fd) : FnOk P w K mg base CX0 1 f fd ["number", "longest"] spReachWith := by
  refine F.ok sc_reachwith (fun vs H Q E h => ?_) (fun cdv A outer s H vs Q E hr h => ?_)
  · obtain ⟨k, R, rfl, _⟩ := h
    rfl
  · obtain ⟨k, R, rfl, h2, h3, q⟩ := h
    refine ⟨_, (pss_cons (ps_if (pt_cmpR op_gt (pv 0) (pe_op op_add (pv 1) pe_int) (nomark _))
 (pss_one (ps_ret (pv 1)))
 pss_nil)
 (pss_one (ps_ret (pe_op op_sub (pe_op op_mulW (pe_op op_sub (pe_op op_add (pv 1) pe_int) (pv 0)) (pv 0)) pe_int)))), ?_⟩
    refine ⟨_, rfl, _, rfl, _, _, rfl, rfl, _, _, rfl, rfl, _, rfl, ite2 (fun c => ?_) (fun c => ?_)⟩
    · have c' : R + 1 < k := of_decide_eq_true c
      have e : rw1 k R = R := by
        unfold rw1
        rw [if_pos (show k > R + 1 from c')]
      rw [e] at q
      exact ⟨_, rfl, q⟩
    · have c' : ¬ R + 1 < k := fun z => c (decide_eq_true z)
      have e : rw1 k R = (R + 3 - k) * k - 2 := by
        unfold rw1
        rw [if_neg (show ¬ k > R + 1 from c')]
      rw [e] at q
      exact ⟨_, rfl, _, _, rfl, rfl, _, rfl, _, _, rfl, rfl, _, rfl, _, _, rfl, rfl, h3 (by omega), _, _, rfl, rfl, q⟩
def spBestNumbers : Sp := fun vs H Q _ => ∃ R : Int, vs = [.int R] ∧ ∀ p, H p = none → Q (.ref p) (upd H p (.lst ((bests R).map V.int)))
theorem ok_bestnumbers {f : Addr} {fd : FuncData} (F : Fun K "best_numbers" "best_numbers" s_bestnumbers f fd) : FnOk P w K mg base CX0 1 f fd ["longest"] spBestNumbers := by
  refine F.ok sc_bestnumbers (fun vs H Q E h => ?_) (fun cdv A outer s H vs Q E hr h => ?_)
  · obtain ⟨R, rfl, _⟩ := h
    rfl
  · obtain ⟨R, rfl, q⟩ := h
    refine ⟨_, (pss_cons (ps_set (i := 1) sc_bestnumbers.nd rfl (Or.inl rfl) (pe_op op_fdiv (pe_op op_add (pv 0) pe_int) pe_int))
 (pss_cons (ps_set (i := 2) sc_bestnumbers.nd rfl (Or.inl rfl) (pe_op op_fdiv (pe_op op_add (pv 0) pe_int) pe_int))
 (pss_cons (ps_if (pt_cmpR op_eq (pv 1) (pv 2) (nomark _))
 (pss_one (ps_ret (pe_lst (pa_cons (pv 1) pa_nil))))
 pss_nil)
 (pss_one (ps_ret (pe_lst (pa_cons (pv 1) (pa_cons (pv 2) pa_nil)))))))), ?_⟩
    refine ⟨_, rfl, _, 3, rfl, rfl, _, 2, rfl, rfl, ⟨by decide, by decide⟩, _, rfl, _, 4, rfl, rfl, _, 2, rfl, rfl, ⟨by decide, by decide⟩, ?_⟩
    refine ⟨_, rfl, _, rfl, rfl, _, rfl, ite2 (fun c => ?_) (fun c => ?_)⟩
    · have c' : V.int (low R) = V.int (high R) := of_decide_eq_true c
      have e : low R = high R := by injection c'
      refine ⟨_, rfl, (by show 1 ≤ sizeLine; exact Nat.le_of_lt (small1000 (by decide))), fun p hp => ?_⟩
      have := q p hp
      unfold bests at this
      rw [if_pos e] at this
      exact this
    · have e : ¬ low R = high R := fun z => c (decide_eq_true (congrArg V.int z))
      refine ⟨_, rfl, _, rfl, (by show 2 ≤ sizeLine; exact Nat.le_of_lt (small1000 (by decide))), fun p hp => ?_⟩
      have := q p hp
      unfold bests at this
      rw [if_neg e] at this
      exact this
def spGrow : Sp := fun vs H Q _ => ∃ (R : Int) (b : Nat), vs = [.int R] ∧ 1 ≤ R ∧ R.natAbs < 2 ^ b ∧ b ≤ 200000 ∧ ∀ H', Same H H' → Q (.int (grow R)) H'
theorem bests_head (R : Int) : ∃ r, bests R = low R :: r := by
  unfold bests
  split
  · exact ⟨_, rfl⟩
  · exact ⟨_, rfl⟩
theorem ok_grow {f : Addr} {fd : FuncData} (F : Fun K "greatest_reach_with_one" "greatest_reach_with_one" s_greatestreachwithone f fd) (D_reachwith : Df P w K mg base 1 "reach_with" ["number", "longest"] spReachWith)
    (D_bestnumbers : Df P w K mg base 1 "best_numbers" ["longest"] spBestNumbers) : FnOk P w K mg base CX0 2 f fd ["longest"] spGrow := by
  refine F.ok sc_greatestreachwithone (fun vs H Q E h => ?_) (fun cdv A outer s H vs Q E hr h => ?_)
  · obtain ⟨R, b, rfl, _⟩ := h
    rfl
  · obtain ⟨R, b, rfl, hR, hb, hb2, q⟩ := h
    refine ⟨_, (pss_one (ps_ret (pe_callD D_reachwith (hr.mono (by omega)) (by rfl) (pa_cons (pe_ix (r := rIxL K) ix_list (pe_callD D_bestnumbers (hr.mono (by omega)) (by rfl) (pa_cons (pv 0) pa_nil)) pe_int (fun _ _ => rfl)) (pa_cons (pv 0) pa_nil))))), ?_⟩
    obtain ⟨r, er⟩ := bests_head R
    refine ⟨_, rfl, R, rfl, fun p hp => ⟨p, (bests R).map V.int, 0, .int (low R), rfl, rfl, SqL.of upd_same, ?_, _, rfl, low R, R, rfl, low_ge hR, fun c => ?_, q _ (same_new hp)⟩⟩
    · rw [er]
      exact atI_nat (j := 0) rfl
    · have l1 := low_ge hR
      have l2 := low_le hR
      exact wide_mul (bits3 hR hb (R + 3 - low R) (by omega) (by omega)) (bits3 hR hb (low R) (by omega) (by omega)) (by omega) (by omega) (by omega)
end
end Sq

set_option Elab.async false
set_option linter.all false
set_option maxRecDepth 100000
set_option maxHeartbeats 2000000
namespace Sq
open PySem PySem.Spec PyProof.Rows L2
section
variable {P : Program} {w : World} {K : PySem.W.Frag} {mg : Str → Option Value} {base : Heap}
/-! ### best_reach -/
def spBestReach : Sp := fun vs H Q _ => ∃ (n : Nat) (v : Int) (b : Nat), vs = [.int (n : Int), .int v] ∧ 1 ≤ v ∧ v.natAbs < 2 ^ b ∧ b * 2 ^ n ≤ 200000 ∧ n < 1000000 ∧ ∀ H', Same H H' → Q (.int (up n v)) H'
abbrev FBestReach (K : PySem.W.Frag) (f : Addr) (fd : FuncData) : Prop := FunD K "best_reach" "best_reach" (defArgs s_bestreach) (defBody s_bestreach) (defScope s_bestreach) [.int 1] [] f fd
theorem ok_bestreach {f : Addr} {fd : FuncData} (F : FBestReach K f fd) (B : Bi mg) (D_checknumber : Df P w K mg base 1 "check_number" ["number", "least"] spCheckNumber)
    (D_greatestreachwithone : Df P w K mg base 2 "greatest_reach_with_one" ["longest"] spGrow) : FnOk P w K mg base CX0 3 f fd ["steps", "most"] spBestReach := by
  refine okD F sc_bestreach (fun vs H Q E h => ?_) (fun cdv A outer s H vs Q E hr h => ?_)
  · obtain ⟨n, v, b, rfl, _⟩ := h
    rfl
  · obtain ⟨n, v, b, rfl, hv, hb, hb2, hn, q⟩ := h
    refine ⟨_, (pss_cons (ps_expr (pe_callD D_checknumber (hr.mono (by omega)) (by rfl) (pa_cons (pv 0) (pa_cons pe_int pa_nil))))
 (pss_cons (ps_expr (pe_callD D_checknumber (hr.mono (by omega)) (by rfl) (pa_cons (pv 1) (pa_cons pe_int pa_nil))))
 (pss_cons (ps_set (i := 2) sc_bestreach.nd rfl (Or.inl rfl) (pv 1))
 (pss_cons (ps_for PassesOwn.never rfl (pi_range1 (by rfl) B.n_range (pa_cons (pv 0) pa_nil)) (pg_name (i := 3) sc_bestreach.nd rfl (Or.inl rfl))
 (pss_one (ps_set (i := 2) sc_bestreach.nd rfl (Or.inl rfl) (pe_callD D_greatestreachwithone (hr.mono (by omega)) (by rfl) (pa_cons (pv 2) pa_nil)))))
 (pss_one (ps_ret (pv 2))))))), ?_⟩
    refine ⟨_, rfl, (n : Int), 0, rfl, by omega, _, rfl, v, 1, rfl, hv, _, rfl, ?_⟩
    refine ⟨_, rfl, (n : Int), rfl, by omega, by omega, for_range (lo := 0) (n := (n : Int).toNat) (fun i σ H' => Same H H' ∧ ∃ y, σ = [some (.int (n : Int)), some (.int v), some (.int (up i v)), y]) ⟨Same.refl H, none, rfl⟩ ?_ ?_⟩
    · rintro i σ H' hi ⟨sm, y, rfl⟩
      refine ⟨_, rfl, up i v, b * 2 ^ i, rfl, up_pos hv i, up_bits hv hb i, pow_le_le (by omega) hb2, fun H2 s2 => ⟨sm.trans s2, _, rfl⟩⟩
    · rintro σ H' ⟨sm, y, rfl⟩
      refine ⟨_, rfl, ?_⟩
      have e : (n : Int).toNat = n := by omega
      rw [e]
      exact q _ sm
/-! ### fewest_steps -/
def spFewest : Sp := fun vs H Q _ => ∃ (l v : Int) (t b : Nat), vs = [.int l, .int v] ∧ 0 ≤ l ∧ 1 ≤ v ∧ v.natAbs < 2 ^ b ∧ b * 2 ^ t ≤ 200000 ∧ l ≤ up t v ∧ (∀ i, i < t → up i v < l) ∧ ∀ H', Same H H' → Q (.int (t : Int)) H'
abbrev FFewest (K : PySem.W.Frag) (f : Addr) (fd : FuncData) : Prop := FunD K "fewest_steps" "fewest_steps" (defArgs s_feweststeps) (defBody s_feweststeps) (defScope s_feweststeps) [.int 1] [] f fd
theorem ok_feweststeps {f : Addr} {fd : FuncData} (F : FFewest K f fd) (B : Bi mg) (D_checknumber : Df P w K mg base 1 "check_number" ["number", "least"] spCheckNumber)
    (D_greatestreachwithone : Df P w K mg base 2 "greatest_reach_with_one" ["longest"] spGrow) : FnOk P w K mg base CX0 3 f fd ["length", "most"] spFewest := by
  refine okD F sc_feweststeps (fun vs H Q E h => ?_) (fun cdv A outer s H vs Q E hr h => ?_)
  · obtain ⟨l, v, t, b, rfl, _⟩ := h
    rfl
  · obtain ⟨l, v, t, b, rfl, h0, hv, hb, hb2, ht, hl, q⟩ := h
    refine ⟨_, (pss_cons (ps_expr (pe_callD D_checknumber (hr.mono (by omega)) (by rfl) (pa_cons (pv 0) (pa_cons pe_int pa_nil))))
 (pss_cons (ps_expr (pe_callD D_checknumber (hr.mono (by omega)) (by rfl) (pa_cons (pv 1) (pa_cons pe_int pa_nil))))
 (pss_cons (ps_set (i := 2) sc_feweststeps.nd rfl (Or.inl rfl) pe_int)
 (pss_cons (ps_set (i := 3) sc_feweststeps.nd rfl (Or.inl rfl) (pv 1))
 (pss_cons (ps_while PassesOwn.never (pt_cmpR op_lt (pv 3) (pv 0) (nomark _))
 (pss_cons (ps_set (i := 3) sc_feweststeps.nd rfl (Or.inl rfl) (pe_callD D_greatestreachwithone (hr.mono (by omega)) (by rfl) (pa_cons (pv 3) pa_nil)))
 (pss_one (ps_aug (i := 2) sc_feweststeps.nd rfl (Or.inl rfl) pe_int ip_add))))
 (pss_one (ps_ret (pv 2)))))))), ?_⟩
    refine ⟨_, rfl, l, 0, rfl, h0, _, rfl, v, 1, rfl, hv, _, rfl, ?_⟩
    refine ⟨fun m σ H' => ∃ i : Nat, i + m = t ∧ Same H H' ∧ σ = [some (.int l), some (.int v), some (.int (i : Int)), some (.int (up i v))], ⟨t, 0, by omega, Same.refl H, rfl⟩, ?_⟩
    rintro m σ H' ⟨i, him, sm, rfl⟩
    refine ⟨_, rfl, _, rfl, up i v, l, rfl, rfl, _, rfl, ?_⟩
    by_cases c : up i v < l
    · rw [decide_eq_true c]
      have hi : i < t := by
        by_cases z : i < t
        · exact z
        · have e : i = t := by omega
          subst e
          omega
      refine iteT ⟨fun σ' H'' => ∃ m', m' < m ∧ ∃ i : Nat, i + m' = t ∧ Same H H'' ∧ σ' = [some (.int l), some (.int v), some (.int (i : Int)), some (.int (up i v))], fun _ _ h => h, ?_⟩
      refine ⟨_, rfl, up i v, b * 2 ^ i, rfl, up_pos hv i, up_bits hv hb i, pow_le_le (by omega) hb2, fun H2 s2 => ⟨_, rfl, (i : Int), 1, rfl, rfl, ?_⟩⟩
      exact ⟨m - 1, by omega, i + 1, by omega, sm.trans s2, rfl⟩
    · rw [decide_eq_false c]
      have e : i = t := by
        by_cases z : i < t
        · exact absurd (hl i z) c
        · omega
      subst e
      exact iteF ⟨_, rfl, q _ sm⟩
/-! ### reach -/
def RchOk : List Int → Int → Prop
  | [], _ => True
  | k :: ks, v => 2 ≤ k ∧ (k ≤ rch ks v + 1 → CMulW (rch ks v + 3 - k) k) ∧ RchOk ks v
def spReach (K : PySem.W.Frag) : Sp := fun vs H Q _ => ∃ (a : Addr) (ks : List Int) (v : Int), vs = [.ref a, .int v] ∧ SqL K H a (ks.map V.int) ∧ (∀ k ∈ ks, 2 ≤ k) ∧ RchOk ks v ∧ 1 ≤ v ∧ ∀ H', Same H H' → Q (.int (rch ks v)) H'
theorem RchOk.drop : ∀ {ks : List Int} {v : Int} {k : Int} {r : List Int} (i : Nat), RchOk ks v → ks.drop i = k :: r → 2 ≤ k ∧ (k ≤ rch r v + 1 → CMulW (rch r v + 3 - k) k)
  | [], v, k, r, i, h, e => by simp at e
  | x :: xs, v, k, r, 0, h, e => by
    rw [List.drop_zero] at e
    cases e
    exact ⟨h.1, h.2.1⟩
  | x :: xs, v, k, r, i + 1, h, e => RchOk.drop (ks := xs) i h.2.2 e
abbrev FReach (K : PySem.W.Frag) (f : Addr) (fd : FuncData) : Prop := FunD K "reach" "reach" (defArgs s_reach) (defBody s_reach) (defScope s_reach) [.int 1] [] f fd
theorem ok_reach {f : Addr} {fd : FuncData} (F : FReach K f fd) (B : Bi mg) (D_checklist : Df P w K mg base 1 "check_list" ["replacements"] (spCheckList K))
    (D_checknumber : Df P w K mg base 1 "check_number" ["number", "least"] spCheckNumber) (D_reachwith : Df P w K mg base 1 "reach_with" ["number", "longest"] spReachWith) :
    FnOk P w K mg base CX0 2 f fd ["replacements", "most"] (spReach K) := by
  refine okD F sc_reach (fun vs H Q E h => ?_) (fun cdv A outer s H vs Q E hr h => ?_)
  · obtain ⟨a, ks, v, rfl, _⟩ := h
    rfl
  · obtain ⟨a, ks, v, rfl, hS, hk, hok, hv, q⟩ := h
    refine ⟨_, (pss_cons (ps_expr (pe_callD D_checklist (hr.mono (by omega)) (by rfl) (pa_cons (pv 0) pa_nil)))
 (pss_cons (ps_expr (pe_callD D_checknumber (hr.mono (by omega)) (by rfl) (pa_cons (pv 1) (pa_cons pe_int pa_nil))))
 (pss_cons (ps_set (i := 2) sc_reach.nd rfl (Or.inl rfl) (pv 1))
 (pss_cons (ps_for PassesOwn.never rfl (pi_reversed (by rfl) B.n_reversed (pa_cons (pv 0) pa_nil)) (pg_name (i := 3) sc_reach.nd rfl (Or.inl rfl))
 (pss_one (ps_set (i := 2) sc_reach.nd rfl (Or.inl rfl) (pe_callD D_reachwith (hr.mono (by omega)) (by rfl) (pa_cons (pv 3) (pa_cons (pv 2) pa_nil))))))
 (pss_one (ps_ret (pv 2))))))), ?_⟩
    refine ⟨.ref a, rfl, a, ks, rfl, hS, hk, fun H1 s1 => ?_⟩
    refine ⟨_, rfl, v, 1, rfl, hv, ?_⟩
    refine ⟨_, rfl, ?_⟩
    have h1 := s1.seq hS
    refine ⟨_, rfl, a, ks.map V.int, rfl, h1, for_it walk_rev (fun i σ H' => H' = H1 ∧ i ≤ ks.length ∧ ∃ y, σ = [some (.ref a), some (.int v), some (.int (rch (ks.drop (ks.length - i)) v)), y]) ⟨rfl, Nat.zero_le _, none, ?_⟩ (fun i σ H' _ h => by rw [h.1]; exact h1) ?_ ?_⟩
    · rw [Nat.sub_zero, List.drop_length]
      rfl
    · rintro i x σ H' H2 hi ⟨rfl, hle, y, rfl⟩ ⟨rfl, e⟩
      rw [List.length_map] at hi e
      obtain ⟨k, hk', rfl⟩ := map_at e
      have hj : ks.length - 1 - i < ks.length := by omega
      have ed : ks.drop (ks.length - (i + 1)) = k :: ks.drop (ks.length - i) := by
        rw [show ks.length - (i + 1) = ks.length - 1 - i by omega, List.drop_eq_getElem_cons hj]
        rw [List.getElem?_eq_getElem hj] at hk'
        rw [Option.some.inj hk', show ks.length - 1 - i + 1 = ks.length - i by omega]
      have hm := hok.drop _ ed
      refine ⟨_, rfl, _, rfl, k, _, rfl, hm.1, hm.2, rfl, hi, some (.int k), ?_⟩
      rw [ed]
      rfl
    · rintro σ H' ⟨rfl, hle, y, rfl⟩
      refine ⟨_, rfl, ?_⟩
      rw [List.length_map, Nat.sub_self, List.drop_zero]
      exact q _ s1
/-- a def with one default: given both, or the first alone -/
theorem two_ways {k : Nat} {x : Str} {prm : Arguments} {bd : List Stmt} {scp : Scope} {f : Addr} {fd : FuncData} {a b : Str} {sp : Sp} (F : FunD K x x prm bd scp [.int 1] [] f fd) (G : FnOk P w K mg base CX0 k f fd [a, b] sp) (g : mg x = some (.ref f))
    (h2 : Binds K fd [a, b] []) (h1 : ∃ ds, Vals [V.int 1] ds ∧ Binds K fd [a, b] ds) : Df P w K mg base k x [a, b] sp ∧ Dv P w K mg base k x [a, b] [.int 1] sp := by
  obtain ⟨ds, hd, hb⟩ := h1
  exact ⟨⟨⟨f, fd, G, g, F.kp, h2⟩⟩, ⟨f, fd, ds, G, g, F.kp, hd, hb⟩⟩
end
end Sq

set_option Elab.async false
set_option linter.all false
set_option maxRecDepth 100000
set_option maxHeartbeats 2000000
namespace Sq
open PySem PySem.Spec PyProof.Rows L2
section
variable {P : Program} {w : World} {K : PySem.W.Frag} {mg : Str → Option Value} {base : Heap}
def spBestChoices : Sp := fun vs H Q _ => ∃ (n : Nat) (v : Int) (b : Nat), vs = [.int (n : Int), .int v] ∧ 1 ≤ v ∧ v.natAbs < 2 ^ b ∧ b * 2 ^ n ≤ 200000 ∧ n < 1000 ∧
  ∀ p as H', H p = none → Same H H' → H' p = some (.lst (as.map V.ref)) → RowsAt H' as (chs n v) → Q (.ref p) H'
theorem ok_bestchoices {f : Addr} {fd : FuncData} (F : Fun K "best_choices" "best_choices" s_bestchoices f fd) (B : Bi mg) (D_bestnumbers : Df P w K mg base 1 "best_numbers" ["longest"] spBestNumbers)
    (D_greatestreachwithone : Df P w K mg base 2 "greatest_reach_with_one" ["longest"] spGrow) : FnOk P w K mg base CX0 3 f fd ["steps", "most"] spBestChoices := by
  refine F.ok sc_bestchoices (fun vs H Q E h => ?_) (fun cdv A outer s H vs Q E hr h => ?_)
  · obtain ⟨n, v, b, rfl, _⟩ := h
    rfl
  · obtain ⟨n, v, b, rfl, hv, hb, hb2, hn, q⟩ := h
    refine ⟨_, (pss_cons (ps_set (i := 2) sc_bestchoices.nd rfl (Or.inl rfl) (pe_lst pa_nil))
 (pss_cons (ps_set (i := 3) sc_bestchoices.nd rfl (Or.inl rfl) (pv 1))
 (pss_cons (ps_for PassesOwn.never rfl (pi_range1 (by rfl) B.n_range (pa_cons (pv 0) pa_nil)) (pg_name (i := 4) sc_bestchoices.nd rfl (Or.inl rfl))
 (pss_cons (ps_expr (pe_bm PySem.F.plainAttrs_list PySem.F.slot_list_append PySem.F.type_list_append mt_append (pv 2) (pa_cons (pe_callD D_bestnumbers (hr.mono (by omega)) (by rfl) (pa_cons (pv 3) pa_nil)) pa_nil)))
 (pss_one (ps_set (i := 3) sc_bestchoices.nd rfl (Or.inl rfl) (pe_callD D_greatestreachwithone (hr.mono (by omega)) (by rfl) (pa_cons (pv 3) pa_nil))))))
 (pss_cons (ps_expr (pe_bm0 PySem.F.plainAttrs_list PySem.F.slot_list_reverse PySem.F.type_list_reverse mt_reverse (pv 2)))
 (pss_one (ps_ret (pv 2))))))), ?_⟩
    refine ⟨Nat.zero_le _, fun p hp => ?_⟩
    refine ⟨_, rfl, _, rfl, (n : Int), rfl, by omega, by omega, for_range (lo := 0) (n := (n : Int).toNat) (fun i σ H' => ∃ as y, σ = [some (.int (n : Int)), some (.int v), some (.ref p), some (.int (up i v)), y] ∧ Same H H' ∧ H' p = some (.lst (as.map V.ref)) ∧ p ∉ as ∧ RowsAt H' as (chs i v).reverse)
      ⟨[], none, rfl, same_new hp, upd_same, (fun z => nomatch z), trivial⟩ ?_ ?_⟩
    · rintro i σ H' hi ⟨as, y, rfl, sm, hp', off, ra⟩
      have la : as.length = i := by rw [ra.len, List.length_reverse, chs_len]
      refine ⟨_, rfl, .inl ⟨rfl, _, SqL.of hp'⟩, _, rfl, up i v, rfl, fun r hr' => ?_⟩
      have npr : p ≠ r := ne_of_none hp' hr'
      have hp2 : (upd H' r (.lst ((bests (up i v)).map V.int))) p = some (.lst (as.map V.ref)) := by rw [upd_ne npr]; exact hp'
      refine ⟨p, _, _, rfl, rfl, hp2, (by rw [List.length_map]; exact small1000 (by omega)), ?_⟩
      refine ⟨_, rfl, up i v, b * 2 ^ i, rfl, up_pos hv i, up_bits hv hb i, pow_le_le (by omega) hb2, fun H3 s3 => ?_⟩
      refine ⟨as ++ [r], _, rfl, fun c o e => s3 _ _ ?_, s3 _ _ ?_, ?_, RowsAt.same s3 ?_⟩
      · rw [upd_ne (ne_of_none e hp)]
        exact same_new hr' _ _ (sm _ _ e)
      · rw [upd_same, List.map_append]
        rfl
      · intro z
        rcases List.mem_append.mp z with z | z
        · exact off z
        · exact npr (List.mem_singleton.mp z)
      · show RowsAt _ _ (bests (up i v) :: chs i v).reverse
        rw [List.reverse_cons]
        refine (RowsAt.upd (RowsAt.same (same_new hr') ra) off).app ⟨?_, trivial⟩
        rw [upd_ne npr.symm, upd_same]
    · rintro σ H' ⟨as, y, rfl, sm, hp', off, ra⟩
      refine ⟨_, rfl, .inl ⟨rfl, _, SqL.of hp'⟩, p, _, rfl, rfl, hp', ?_⟩
      refine ⟨_, rfl, ?_⟩
      have e : (n : Int).toNat = n := by omega
      rw [e] at ra
      have r2 := ra.rev
      rw [List.reverse_reverse] at r2
      refine q p as.reverse _ hp (fun c o e => ?_) ?_ (r2.upd fun z => off (List.mem_reverse.mp z))
      · rw [upd_ne (ne_of_none e hp)]
        exact sm _ _ e
      · rw [upd_same, List.map_reverse]
def spListAt : Sp := fun vs H Q _ => ∃ (p : Addr) (z : Int) (as : List Addr) (cs : List (List Int)), vs = [.ref p, .int z] ∧ H p = some (.lst (as.map V.ref)) ∧ RowsAt H as cs ∧ Full cs ∧ (∀ c ∈ cs, c.length < 1000) ∧ cs.length < 1000 ∧
  ∀ q H', H q = none → Same H H' → H' q = some (.lst ((pick cs z).map V.int)) → Q (.ref q) H'
theorem ok_listat {f : Addr} {fd : FuncData} (F : Fun K "list_at" "list_at" s_listat f fd) (B : Bi mg) : FnOk P w K mg base CX0 1 f fd ["choices", "place"] spListAt := by
  refine F.ok sc_listat (fun vs H Q E h => ?_) (fun cdv A outer s H vs Q E hr h => ?_)
  · obtain ⟨p, z, as, cs, rfl, _⟩ := h
    rfl
  · obtain ⟨p, z, as, cs, rfl, hp, ra, full, few, fw, q⟩ := h
    refine ⟨_, (pss_cons (ps_set (i := 2) sc_listat.nd rfl (Or.inl rfl) (pe_lst pa_nil))
 (pss_cons (ps_set (i := 3) sc_listat.nd rfl (Or.inl rfl) (pv 1))
 (pss_cons (ps_for PassesOwn.never rfl (pi_reversed (by rfl) B.n_reversed (pa_cons (pv 0) pa_nil)) (pg_name (i := 4) sc_listat.nd rfl (Or.inl rfl))
 (pss_cons (ps_expr (pe_bm PySem.F.plainAttrs_list PySem.F.slot_list_append PySem.F.type_list_append mt_append (pv 2) (pa_cons (pe_ix (r := rIxL K) ix_list (pv 4) (pe_op op_mod (pv 3) (pe_callB (id := "len") (r := rLenK K) call_lenK (by rfl) B.n_len (by decide +kernel) (pa_cons (pv 4) pa_nil))) (fun _ _ => rfl)) pa_nil)))
 (pss_one (ps_set (i := 3) sc_listat.nd rfl (Or.inl rfl) (pe_op op_fdiv (pv 3) (pe_callB (id := "len") (r := rLenK K) call_lenK (by rfl) B.n_len (by decide +kernel) (pa_cons (pv 4) pa_nil)))))))
 (pss_cons (ps_expr (pe_bm0 PySem.F.plainAttrs_list PySem.F.slot_list_reverse PySem.F.type_list_reverse mt_reverse (pv 2)))
 (pss_one (ps_ret (pv 2))))))), ?_⟩
    refine ⟨Nat.zero_le _, fun d hd => ?_⟩
    have la := ra.len
    have npd : p ≠ d := ne_of_none hp hd
    refine ⟨_, rfl, _, rfl, p, as.map V.ref, rfl, SqL.of (same_new hd _ _ hp), for_it walk_rev (fun i σ H' => ∃ y, i ≤ cs.length ∧ Same H H' ∧ σ = [some (.ref p), some (.int z), some (.ref d), some (.int (z / lens (cs.drop (cs.length - i)))), y] ∧ H' d = some (.lst ((pick (cs.drop (cs.length - i)) z).reverse.map V.int)))
      ⟨none, Nat.zero_le _, same_new hd, ?_, ?_⟩ (fun i σ H' _ h => ?_) ?_ ?_⟩
    · rw [Nat.sub_zero, List.drop_length]
      show _ = [_, _, _, some (V.int (z / 1)), _]
      rw [Int.ediv_one]
      rfl
    · rw [Nat.sub_zero, List.drop_length]
      exact upd_same
    · obtain ⟨y, _, sm, _⟩ := h
      exact SqL.of (sm _ _ hp)
    · rintro i x σ H' H2 hi ⟨y, hle, sm, rfl, hd'⟩ ⟨rfl, e⟩
      rw [List.length_map] at hi e
      obtain ⟨a, ha, rfl⟩ := map_ref e
      have hj : cs.length - 1 - i < cs.length := by omega
      obtain ⟨c, hc⟩ : ∃ c, cs[cs.length - 1 - i]? = some c := ⟨_, List.getElem?_eq_getElem hj⟩
      have hcm : c ∈ cs := List.mem_of_getElem? hc
      obtain ⟨a', ha', hac⟩ := ra.get hc
      rw [la] at ha
      rw [ha] at ha'
      cases ha'
      have hac' := sm _ _ hac
      have ed : cs.drop (cs.length - (i + 1)) = c :: cs.drop (cs.length - i) := by
        rw [show cs.length - (i + 1) = cs.length - 1 - i by omega, List.drop_eq_getElem_cons hj]
        rw [List.getElem?_eq_getElem hj] at hc
        rw [Option.some.inj hc, show cs.length - 1 - i + 1 = cs.length - i by omega]
      have lc := few c hcm
      have lp := full c hcm
      have m0 := Int.emod_nonneg (z / lens (cs.drop (cs.length - i))) (show (c.length : Int) ≠ 0 by omega)
      have m1 := Int.emod_lt_of_pos (z / lens (cs.drop (cs.length - i))) (show 0 < (c.length : Int) by omega)
      have lt : ((z / lens (cs.drop (cs.length - i))) % (c.length : Int)).toNat < c.length := by omega
      have el : ((c.map V.int).length : Int) = (c.length : Int) := by rw [List.length_map]
      -- found.append(numbers[rest % len(numbers)])
      refine ⟨_, rfl, .inl ⟨rfl, _, SqL.of hd'⟩, _, rfl, _, rfl, _, rfl, a, c.map V.int, rfl, .inl (SqL.of hac'), _, _, rfl, rfl, (by rw [el]; omega), a, c.map V.int, _, .int (c.getD ((z / lens (cs.drop (cs.length - i))) % (c.length : Int)).toNat 0), rfl, rfl, SqL.of hac', ?_, ?_⟩
      · rw [el]
        refine at_of (j := ((z / lens (cs.drop (cs.length - i))) % (c.length : Int)).toNat) (by omega) ?_
        rw [List.getElem?_map, List.getElem?_eq_getElem lt, List.getD_eq_getElem?_getD, List.getElem?_eq_getElem lt]
        rfl
      · have lfd : (List.map V.int (pick (cs.drop (cs.length - i)) z).reverse).length < 1000 := by
          rw [List.length_map, List.length_reverse, pick_len, List.length_drop]
          omega
        refine ⟨d, _, _, rfl, rfl, hd', small1000 (Nat.le_of_lt lfd), ?_⟩
        have nad : a ≠ d := ne_of_none hac hd
        have hac2 : (upd H2 d (.lst (List.map V.int (pick (cs.drop (cs.length - i)) z).reverse ++ [.int (c.getD ((z / lens (cs.drop (cs.length - i))) % (c.length : Int)).toNat 0)]))) a = some (.lst (c.map V.int)) := by rw [upd_ne nad]; exact hac'
        refine ⟨_, rfl, _, rfl, a, c.map V.int, rfl, .inl (SqL.of hac2), _, _, rfl, rfl, ⟨by rw [el]; omega, by rw [el]; omega⟩, ?_⟩
        refine ⟨some (.ref a), by omega, fun b o e => ?_, ?_, ?_⟩
        · rw [upd_ne (ne_of_none e hd)]
          exact sm _ _ e
        · rw [ed, el]
          show _ = [_, _, _, some (V.int (z / ((c.length : Int) * lens (cs.drop (cs.length - i))))), _]
          rw [Int.mul_comm (c.length : Int), ← Int.ediv_ediv_of_nonneg (Int.le_of_lt (lens_pos (fun x hx => full x (List.mem_of_mem_drop hx))))]
          rfl
        · rw [upd_same, ed]
          show _ = some (HO.lst ((_ :: pick (cs.drop (cs.length - i)) z).reverse.map V.int))
          rw [List.reverse_cons, List.map_append]
          rfl
    · rintro σ H' ⟨y, hle, sm, rfl, hd'⟩
      have e0 : cs.drop (cs.length - (as.map V.ref).length) = cs := by
        rw [List.length_map, la, Nat.sub_self, List.drop_zero]
      rw [e0] at hd'
      refine ⟨_, rfl, .inl ⟨rfl, _, SqL.of hd'⟩, d, _, rfl, rfl, hd', ?_⟩
      refine ⟨_, rfl, q d _ hd (fun b o e => ?_) ?_⟩
      · rw [upd_ne (ne_of_none e hd)]
        exact sm _ _ e
      · rw [upd_same, ← List.map_reverse, List.reverse_reverse]
end
end Sq

set_option Elab.async false
set_option linter.all false
set_option maxRecDepth 100000
set_option maxHeartbeats 2000000
namespace Sq
open PySem PySem.Spec PyProof.Rows L2
/-- the rows that best_lists gives -/
def rowsOf (n : Nat) (v : Int) (m : Nat) : List (List Int) := (List.range m).map fun j : Nat => pick (chs n v) (j : Int)
theorem rowsOf_succ (n : Nat) (v : Int) (m : Nat) : rowsOf n v (m + 1) = rowsOf n v m ++ [pick (chs n v) (m : Int)] := by
  unfold rowsOf
  rw [List.range_succ, List.map_append]
  rfl
theorem lens_app : ∀ (a b : List (List Int)), lens (a ++ b) = lens a * lens b
  | [], b => (Int.one_mul _).symm
  | c :: a, b => by
    show (c.length : Int) * lens (a ++ b) = (c.length : Int) * lens a * lens b
    rw [lens_app a b, Int.mul_assoc]
theorem rowsOf_len (n : Nat) (v : Int) (m : Nat) : (rowsOf n v m).length = m := by
  unfold rowsOf
  rw [List.length_map, List.length_range]
section
variable {P : Program} {w : World} {K : PySem.W.Frag} {mg : Str → Option Value} {base : Heap}
def spBestLists : SpG := fun vs H Q _ => ∃ (n : Nat) (v : Int) (b : Nat), vs = [.int (n : Int), .int v] ∧ 1 ≤ v ∧ v.natAbs < 2 ^ b ∧ b * 2 ^ n ≤ 200000 ∧ n ≤ 8 ∧
  ∀ as H', Same H H' → RowsAt H' as (rowsOf n v (lens (chs n v)).toNat) → (∀ a ∈ as, H a = none) → Q (as.map V.ref) H'
abbrev FBestLists (K : PySem.W.Frag) (f : Addr) (fd : FuncData) : Prop := FunD K "best_lists" "best_lists" (defArgs s_bestlists) (defBody s_bestlists) (defScope s_bestlists) [.int 1] [] f fd
theorem ok_bestlists {f : Addr} {fd : FuncData} (F : FBestLists K f fd) (B : Bi mg) (D_checknumber : Df P w K mg base 1 "check_number" ["number", "least"] spCheckNumber)
    (D_bestchoices : Df P w K mg base 3 "best_choices" ["steps", "most"] spBestChoices) (D_listat : Df P w K mg base 1 "list_at" ["choices", "place"] spListAt) : GFn P w K mg base 5 f fd ["steps", "most"] spBestLists := by
  obtain ⟨oc, od, dV, kV, doc, pm, an, cdv, ct, osl, rfl, lk, hcd, hD, hK⟩ := F.ex
  refine gfn_of (k := 4) lk hcd sc_bestlists (fun vs H Q E h => ?_) (fun A outer s H vs Q E pn hr h => ?_)
  · obtain ⟨n, v, b, rfl, _⟩ := h
    rfl
  · obtain ⟨n, v, b, rfl, hv, hb, hb2, hn, q⟩ := h
    refine ⟨_, (gss_cons (gs_ps (ps_expr (pe_callD D_checknumber (hr.mono (by omega)) (by rfl) (pa_cons (pv 0) (pa_cons pe_int pa_nil)))))
 (gss_cons (gs_ps (ps_expr (pe_callD D_checknumber (hr.mono (by omega)) (by rfl) (pa_cons (pv 1) (pa_cons pe_int pa_nil)))))
 (gss_cons (gs_ps (ps_set (i := 2) sc_bestlists.nd rfl (Or.inl rfl) (pe_callD D_bestchoices (hr.mono (by omega)) (by rfl) (pa_cons (pv 0) (pa_cons (pv 1) pa_nil)))))
 (gss_cons (gs_ps (ps_set (i := 3) sc_bestlists.nd rfl (Or.inl rfl) pe_int))
 (gss_cons (gs_ps (ps_for owns_gcx rfl (pi_list (pv 2)) (pg_name (i := 4) sc_bestlists.nd rfl (Or.inl rfl))
 (pss_one (ps_set (i := 3) sc_bestlists.nd rfl (Or.inl rfl) (pe_op op_mul (pv 3) (pe_callB (id := "len") (r := rLenK K) call_lenK (by rfl) B.n_len (by decide +kernel) (pa_cons (pv 4) pa_nil)))))))
 (gss_cons (gs_for owns_gcx rfl (pi_range1 (by rfl) B.n_range (pa_cons (pv 3) pa_nil)) (pg_name (i := 5) sc_bestlists.nd rfl (Or.inl rfl))
 (gss_cons (gs_yield (pe_callD D_listat (hr.mono (by omega)) (by rfl) (pa_cons (pv 2) (pa_cons (pv 5) pa_nil))))
 gss_nil))
 gss_nil)))))), ?_⟩
    refine ⟨_, rfl, (n : Int), 0, rfl, by omega, _, rfl, v, 1, rfl, hv, ?_⟩
    refine ⟨_, rfl, _, rfl, n, v, b, rfl, hv, hb, hb2, by omega, fun p as H1 hp s1 hp1 ra => ?_⟩
    have full := chs_full n v
    have la := ra.len
    have lc := chs_len n v
    have few : ∀ c ∈ chs n v, c.length ≤ 2 := fun c hc => by
      obtain ⟨i, _, rfl⟩ := chs_mem hc
      rw [bests_len]
      split <;> omega
    refine ⟨_, rfl, p, rfl, ⟨_, SqL.of hp1⟩, for_list (K := K) (a := p) (xs := as.map V.ref) (fun i σ H' => H' = H1 ∧ ∃ y4 y5, σ = [some (.int (n : Int)), some (.int v), some (.ref p), some (.int (lens ((chs n v).take i))), y4, y5])
      ⟨rfl, none, none, rfl⟩ (fun i σ H' _ h => by rw [h.1]; exact SqL.of hp1) ?_ ?_⟩
    · rintro i x σ H' hi ⟨rfl, y4, y5, rfl⟩
      obtain ⟨a, ha, rfl⟩ := map_ref hi
      have hil : i < (chs n v).length := by
        have := (List.getElem?_eq_some_iff.mp ha).1
        omega
      obtain ⟨c, hc⟩ : ∃ c, (chs n v)[i]? = some c := ⟨_, List.getElem?_eq_getElem hil⟩
      obtain ⟨a', ha', hac⟩ := ra.get hc
      rw [ha] at ha'
      cases ha'
      have lc2 := few c (List.mem_of_getElem? hc)
      refine ⟨_, rfl, _, rfl, a, c.map V.int, rfl, .inl (SqL.of hac), _, _, rfl, rfl, .inr ⟨by rw [List.length_map]; omega, by rw [List.length_map]; omega⟩, rfl, some (.ref a), y5, ?_⟩
      have e : (chs n v).take (i + 1) = (chs n v).take i ++ [c] := by rw [List.take_add_one, hc]; rfl
      rw [e, lens_app, List.length_map]
      show _ = [_, _, _, some (V.int (lens ((chs n v).take i) * ((c.length : Int) * 1))), _, _]
      rw [Int.mul_one]
      rfl
    · rintro σ H' ⟨rfl, y4, y5, rfl⟩
      have e0 : (chs n v).take (as.map V.ref).length = chs n v := List.take_of_length_le (by rw [List.length_map, la]; exact Nat.le_refl _)
      rw [e0]
      have lp := lens_pos full
      have ll := lens_le hn v
      refine ⟨_, rfl, lens (chs n v), rfl, by omega, by omega, gfor_it walk_range (fun i ys σ H2 => ∃ as' y5, σ = [some (.int (n : Int)), some (.int v), some (.ref p), some (.int (lens (chs n v))), y4, y5] ∧ Same H' H2 ∧ RowsAt H2 as' (rowsOf n v i) ∧ ys = as'.map V.ref ∧ ∀ a ∈ as', H a = none)
        ⟨[], y5, rfl, Same.refl _, trivial, rfl, fun a z => nomatch z⟩ (fun _ _ _ _ _ _ => trivial) ?_ ?_⟩
      · rintro i x ys σ H2 H3 hi ⟨as', y5, rfl, sm, ra', rfl, fr⟩ ⟨rfl, rfl⟩
        have ly : as'.length = i := by rw [ra'.len, rowsOf_len]
        refine ⟨by rw [List.length_map]; exact Nat.lt_of_le_of_lt (show as'.length ≤ 999 by omega) (by rw [sizeLine_eq]; omega), ?_⟩
        refine ⟨_, rfl, _, rfl, p, _, as, chs n v, rfl, sm _ _ hp1, ra.same sm, full, fun c hc => by have := few c hc; omega, by omega, fun q' H4 hq s4 hq4 => ?_⟩
        have ez : (0 : Int) + (i : Int) = (i : Int) := Int.zero_add _
        rw [ez] at hq4
        refine ⟨as' ++ [q'], _, rfl, sm.trans s4, ?_, ?_, ?_⟩
        · rw [rowsOf_succ]
          exact (ra'.same s4).app ⟨hq4, trivial⟩
        · rw [List.map_append]
          rfl
        · intro a z
          rcases List.mem_append.mp z with z | z
          · exact fr a z
          · rw [List.mem_singleton.mp z]
            exact (s1.trans sm).free hq
      · rintro ys σ H2 ⟨as', y5, rfl, sm, ra', rfl, fr⟩
        exact q as' H2 (s1.trans sm) ra' fr
end
end Sq

set_option Elab.async false
set_option linter.all false
set_option maxRecDepth 100000
set_option maxHeartbeats 2000000
namespace Sq
open PySem PySem.Spec PyProof.Rows L2
/-- the law's step: the least run with more -/
theorem least_step {k R : Int} (hk : 2 ≤ k) (hR : 1 ≤ R) : (R + 1 - (if R + 1 < k - 1 then R + 1 else k - 1)) * k + (if R + 1 < k - 1 then R + 1 else k - 1) = rw1 k R + 1 := by
  by_cases c : R + 1 < k - 1
  · rw [if_pos c, Int.sub_self, Int.zero_mul]
    unfold rw1
    rw [if_pos (by omega)]
    omega
  · rw [if_neg c]
    rw [rw1_low (by omega)]
    rw [show R + 1 - (k - 1) = (R + 3 - k) - 1 by omega, Int.sub_mul]
    omega
/-- how great it gets -/
theorem rw1_le_mul {k R : Int} (hk : 2 ≤ k) (hR : 1 ≤ R) : rw1 k R + 1 ≤ (R + 1) * k := by
  rw [← least_step hk hR]
  have e : ∀ r : Int, 0 ≤ r → (R + 1 - r) * k + r ≤ (R + 1) * k := fun r h => by
    rw [Int.sub_mul]
    have : r * 1 ≤ r * k := Int.mul_le_mul_of_nonneg_left (by omega) h
    omega
  refine e _ ?_
  split <;> omega
theorem rch_bits : ∀ {ks : List Int} {v : Int} {c : Nat}, (∀ k ∈ ks, 2 ≤ k ∧ k.natAbs < 2 ^ c) → 1 ≤ v → (v + 1).natAbs < 2 ^ c → (rch ks v + 1).natAbs < 2 ^ (c * (ks.length + 1))
  | [], v, c, _, _, h => by
    show _ < 2 ^ (c * 1)
    rw [Nat.mul_one]
    exact h
  | k :: ks, v, c, hk, hv, h => by
    have h2 := hk k (List.mem_cons_self ..)
    have ht : ∀ x ∈ ks, 2 ≤ x ∧ x.natAbs < 2 ^ c := fun x hx => hk x (List.mem_cons_of_mem _ hx)
    have ih := rch_bits ht hv h
    have p := rch_pos ks v (fun x hx => (ht x hx).1) hv
    have q := rch_pos (k :: ks) v (fun x hx => (hk x hx).1) hv
    have m := rw1_le_mul h2.1 p
    have b := wide_lt ih h2.2
    have e : rch (k :: ks) v = rw1 k (rch ks v) := rfl
    rw [← e] at m
    have s : c * ((k :: ks).length + 1) = c * (ks.length + 1) + c := by rw [List.length_cons, Nat.mul_add c (ks.length + 1) 1, Nat.mul_one]
    rw [s]
    exact wide_le (by omega) m b
section
variable {P : Program} {w : World} {K : PySem.W.Frag} {mg : Str → Option Value} {base : Heap}
def spLeast (K : PySem.W.Frag) : Sp := fun vs H Q _ => ∃ (a : Addr) (ks : List Int) (v : Int) (c : Nat), vs = [.ref a, .int (v + 1)] ∧ SqL K H a (ks.map V.int) ∧ (∀ k ∈ ks, 2 ≤ k ∧ k.natAbs < 2 ^ c) ∧ 1 ≤ v ∧ (v + 1).natAbs < 2 ^ c ∧ c * (ks.length + 2) ≤ 900000 ∧ ∀ H', Same H H' → Q (.int (rch ks v + 1)) H'
theorem ok_lawleastrun {f : Addr} {fd : FuncData} (F : Fun K "_law_least_run" "_law_least_run" s_lawleastrun f fd) (B : Bi mg) : FnOk P w K mg base CX0 1 f fd ["row", "goal"] (spLeast K) := by
  refine F.ok sc_lawleastrun (fun vs H Q E h => ?_) (fun cdv A outer s H vs Q E hr h => ?_)
  · obtain ⟨a, ks, v, c, rfl, _⟩ := h
    rfl
  · obtain ⟨a, ks, v, c, rfl, hS, hk, hv, hvc, hc, q⟩ := h
    refine ⟨_, (pss_cons (ps_for PassesOwn.never rfl (pi_list (pe_revL (pv 0))) (pg_name (i := 2) sc_lawleastrun.nd rfl (Or.inl rfl))
 (pss_cons (ps_set (i := 3) sc_lawleastrun.nd rfl (Or.inl rfl) (pe_callB (id := "min") (call_min2 rfl) (by rfl) B.n_min (by decide +kernel) (pa_cons (pe_op op_sub (pv 2) pe_int) (pa_cons (pv 1) pa_nil))))
 (pss_one (ps_set (i := 1) sc_lawleastrun.nd rfl (Or.inl rfl) (pe_op op_add (pe_op op_mulW (pe_op op_sub (pv 1) (pv 3)) (pv 2)) (pv 3))))))
 (pss_one (ps_ret (pv 1)))), ?_⟩
    have c1 : 1 ≤ c := by
      by_cases z : c = 0
      · subst z
        simp at hvc
        omega
      · omega
    refine ⟨_, rfl, a, _, rfl, hS, fun r hr' => ⟨r, rfl, ⟨_, SqL.of upd_same⟩, for_list (K := K) (a := r) (xs := (ks.map V.int).reverse) (fun i σ H' => H' = upd H r (.lst (ks.map V.int).reverse) ∧ i ≤ ks.length ∧ ∃ y z, σ = [some (.ref a), some (.int (rch (ks.drop (ks.length - i)) v + 1)), y, z])
      ⟨rfl, Nat.zero_le _, none, none, ?_⟩ (fun i σ H' _ h => by rw [h.1]; exact SqL.of upd_same) ?_ ?_⟩⟩
    · rw [Nat.sub_zero, List.drop_length]
      rfl
    · rintro i x σ H' hi ⟨rfl, hle, y, z, rfl⟩
      rw [← List.map_reverse] at hi
      obtain ⟨k, hk', rfl⟩ := map_at hi
      have hil : i < ks.length := by
        have := (List.getElem?_eq_some_iff.mp hk').1
        rwa [List.length_reverse] at this
      rw [List.getElem?_reverse hil] at hk'
      have hm := hk k (List.mem_of_getElem? hk')
      have hj : ks.length - 1 - i < ks.length := by omega
      have ed : ks.drop (ks.length - (i + 1)) = k :: ks.drop (ks.length - i) := by
        rw [show ks.length - (i + 1) = ks.length - 1 - i by omega, List.drop_eq_getElem_cons hj]
        rw [List.getElem?_eq_getElem hj] at hk'
        rw [Option.some.inj hk', show ks.length - 1 - i + 1 = ks.length - i by omega]
      have hd : ∀ x ∈ ks.drop (ks.length - i), 2 ≤ x ∧ x.natAbs < 2 ^ c := fun x hx => hk x (List.mem_of_mem_drop hx)
      have p := rch_pos _ v (fun x hx => (hd x hx).1) hv
      have bt := rch_bits hd hv hvc
      have st := least_step hm.1 p
      refine ⟨_, rfl, _, 1, rfl, rfl, _, rfl, k - 1, rch (ks.drop (ks.length - i)) v + 1, rfl, ?_⟩
      have r0 : 0 ≤ (if rch (ks.drop (ks.length - i)) v + 1 < k - 1 then rch (ks.drop (ks.length - i)) v + 1 else k - 1) := by split <;> omega
      have r1 : (if rch (ks.drop (ks.length - i)) v + 1 < k - 1 then rch (ks.drop (ks.length - i)) v + 1 else k - 1) ≤ rch (ks.drop (ks.length - i)) v + 1 := by split <;> omega
      generalize (if rch (ks.drop (ks.length - i)) v + 1 < k - 1 then rch (ks.drop (ks.length - i)) v + 1 else k - 1) = rest at st r0 r1 ⊢
      refine ⟨_, rfl, _, rfl, _, _, rfl, rfl, _, rfl, rch (ks.drop (ks.length - i)) v + 1 - rest, k, rfl, rfl, ?_, _, rfl, _, _, rfl, rfl, rfl, by omega, ?_⟩
      · have e1 : (ks.drop (ks.length - i)).length = i := by rw [List.length_drop]; omega
        rw [e1] at bt
        have e2 : c * (i + 1) + c ≤ c * (ks.length + 2) := by
          have : c * (i + 1) + c = c * (i + 2) := by rw [show i + 2 = (i + 1) + 1 by omega, Nat.mul_add c (i + 1) 1, Nat.mul_one]
          rw [this]
          exact Nat.mul_le_mul_left c (by omega)
        have e3 : 1 ≤ c * (i + 1) := Nat.mul_pos (by omega) (by omega)
        exact wide_mul (wide_le (by omega) (by omega : rch (ks.drop (ks.length - i)) v + 1 - rest ≤ rch (ks.drop (ks.length - i)) v + 1) bt) hm.2 (by omega) (by omega) (by omega)
      · refine ⟨some (.int k), some (.int rest), ?_⟩
        rw [ed]
        show _ = [_, some (V.int (rw1 k (rch (ks.drop (ks.length - i)) v) + 1)), _, _]
        rw [← st]
        rfl
    · rintro σ H' ⟨rfl, hle, y, z, rfl⟩
      refine ⟨_, rfl, ?_⟩
      rw [List.length_reverse, List.length_map, Nat.sub_self, List.drop_zero]
      exact q _ (same_new hr')
end
end Sq

set_option Elab.async false
set_option linter.all false
set_option maxRecDepth 100000
set_option maxHeartbeats 2000000
namespace Sq
open PySem PySem.Spec PyProof.Rows L2
theorem step_up {k R : Int} (h : k + 1 ≤ R + 2) : (rw1 k R + 1 < rw1 (k + 1) R + 1) ↔ 2 * k < R + 2 := by
  rw [rw1_low (by omega), rw1_low h]
  have e : (R + 3 - (k + 1)) * (k + 1) = (R + 3 - k) * k + (R + 2 - 2 * k) := by
    rw [show R + 3 - (k + 1) = (R + 3 - k) - 1 by omega, Int.sub_mul, Int.mul_add, Int.mul_one]
    omega
  omega
section
variable {P : Program} {w : World} {K : PySem.W.Frag} {mg : Str → Option Value} {base : Heap}
def spMost : Sp := fun vs H Q _ => ∃ (R : Int) (b : Nat), vs = [.int R] ∧ 1 ≤ R ∧ R.natAbs < 2 ^ b ∧ b ≤ 200000 ∧ ∀ H', Same H H' → Q (.int (grow R)) H'
theorem ok_lawmostof {f : Addr} {fd : FuncData} (F : Fun K "_law_most_of" "_law_most_of" s_lawmostof f fd) (B : Bi mg) (D_lawleastrun : Df P w K mg base 1 "_law_least_run" ["row", "goal"] (spLeast K)) : FnOk P w K mg base CX0 2 f fd ["reached"] spMost := by
  refine F.ok sc_lawmostof (fun vs H Q E h => ?_) (fun cdv A outer s H vs Q E hr h => ?_)
  · obtain ⟨R, b, rfl, _⟩ := h
    rfl
  · obtain ⟨R, b, rfl, hR, hb, hb2, q⟩ := h
    have bt := bits3 hR hb
    have one : ∀ k : Int, 2 ≤ k → k ≤ R + 3 → ∀ x ∈ [k], 2 ≤ x ∧ x.natAbs < 2 ^ (b + 2) := fun k h1 h2 x hx => by
      rw [List.mem_singleton.mp hx]
      exact ⟨h1, bt k (by omega) h2⟩
    have g1 : (R + 1).natAbs < 2 ^ (b + 2) := bt _ (by omega) (by omega)
    have cc : (b + 2) * (1 + 2) ≤ 900000 := by omega
    have s1 : 1 ≤ sizeLine := Nat.le_of_lt (small1000 (by decide))
    have L2 := low_ge hR
    have L3 := low_le hR
    refine ⟨_, (pss_cons (ps_par (i := 1) (j := 2) (by rfl) sc_lawmostof.nd rfl rfl (by decide) rfl rfl (pa_cons pe_int (pa_cons (pe_op op_add (pv 0) pe_int) pa_nil)) (by rfl))
 (pss_cons (ps_while PassesOwn.never (PW.pt (pw_and (pt_cmpR op_lt (pv 1) (pv 2) (nomark _)) (pw_and1 (pt_cmpR op_lt (pv 0) (pe_op op_pow pe_int pe_int) (nomark _)))))
 (pss_cons (ps_set (i := 3) sc_lawmostof.nd rfl (Or.inl rfl) (pe_op op_fdiv (pe_op op_add (pv 1) (pv 2)) pe_int))
 (pss_one (ps_if (pt_cmpR op_lt (pe_callD D_lawleastrun (hr.mono (by omega)) (by rfl) (pa_cons (pe_lst (pa_cons (pv 3) pa_nil)) (pa_cons (pe_op op_add (pv 0) pe_int) pa_nil))) (pe_callD D_lawleastrun (hr.mono (by omega)) (by rfl) (pa_cons (pe_lst (pa_cons (pe_op op_add (pv 3) pe_int) pa_nil)) (pa_cons (pe_op op_add (pv 0) pe_int) pa_nil))) (nomark _))
 (pss_one (ps_set (i := 1) sc_lawmostof.nd rfl (Or.inl rfl) (pe_op op_add (pv 3) pe_int)))
 (pss_one (ps_set (i := 2) sc_lawmostof.nd rfl (Or.inl rfl) (pv 3)))))))
 (pss_cons (ps_if (pt_cmpR op_lt (pv 1) (pv 2) (nomark _))
 (pss_one (ps_set (i := 1) sc_lawmostof.nd rfl (Or.inl rfl) (pe_op op_fdiv (pe_op op_add (pv 0) pe_int) pe_int)))
 pss_nil)
 (pss_one (ps_ret (pe_callB (id := "max") (cr_max rfl) (by rfl) B.n_max (by decide +kernel) (pa_cons (pe_lc (own := [("one", 4)]) (g := gName 4) rfl sc_lawmostof.nd (pi_range2W (by rfl) B.n_range (pa_cons (pe_callB (id := "max") (call_max2 rfl) (by rfl) B.n_max (by decide +kernel) (pa_cons pe_int (pa_cons (pe_op op_sub (pv 1) pe_int) pa_nil))) (pa_cons (pe_op op_add (pv 1) pe_int) pa_nil))) (blkOk_by (own := [("one", 4)]) (N := ["reached", "low", "high", "middle", "one"]) (sc := defScope s_lawmostof) (by decide +kernel)) (fun _ _ _ _ _ => pg_name (i := 4) sc_lawmostof.nd rfl (Or.inl rfl)) (fun _ _ _ _ _ => pts_nil) (fun _ _ _ _ _ => (pe_op op_sub (pe_callD D_lawleastrun (hr.mono (by omega)) (by rfl) (pa_cons (pe_lst (pa_cons (pv 4) pa_nil)) (pa_cons (pe_op op_add (pv 0) pe_int) pa_nil))) pe_int))) pa_nil))))))), ?_⟩
    refine ⟨_, rfl, _, 2, rfl, rfl, _, _, rfl, ?_⟩
    refine ⟨fun m σ H' => ∃ lo hi y4, m = (hi - lo).toNat ∧ σ = [some (.int R), some (.int lo), some (.int hi), y4, none] ∧ Same H H' ∧ 2 ≤ lo ∧ lo ≤ low R ∧ low R ≤ hi ∧ hi ≤ R + 2, ⟨_, 2, R + 2, none, rfl, rfl, Same.refl H, by omega, L2, by omega, by omega⟩, ?_⟩
    rintro m σ H' ⟨lo, hi, y4, rfl, rfl, sm, i1, i2, i3, i4⟩
    refine tell (fun H2 => H2 = H' ∧ lo < hi ∧ R < 1000000000) (fun H2 => H2 = H' ∧ ¬ (lo < hi ∧ R < 1000000000)) (fun Q' hT hF => ?_) (fun H2 h => ?_) (fun H2 h => ?_)
    · refine ⟨_, rfl, _, rfl, _, _, rfl, rfl, _, rfl, ite2 (fun c1 => ?_) (fun c1 => hF _ ⟨rfl, fun z => c1 (decide_eq_true z.1)⟩)⟩
      have c1' : lo < hi := of_decide_eq_true c1
      refine ⟨_, rfl, 10, 9, rfl, rfl, ⟨by decide, by decide, by decide⟩, _, _, rfl, rfl, _, rfl, ?_⟩
      by_cases c2 : R < 1000000000
      · rw [show decide (R < (10 : Int) ^ (9 : Int).toNat) = true from decide_eq_true c2]
        exact hT _ ⟨rfl, c1', c2⟩
      · rw [show decide (R < (10 : Int) ^ (9 : Int).toNat) = false from decide_eq_false c2]
        exact hF _ ⟨rfl, fun z => c2 z.2⟩
    · obtain ⟨rfl, c1, c2⟩ := h
      refine iteT ⟨fun σ' H'' => ∃ m', m' < (hi - lo).toNat ∧ ∃ lo hi y4, m' = (hi - lo).toNat ∧ σ' = [some (.int R), some (.int lo), some (.int hi), y4, none] ∧ Same H H'' ∧ 2 ≤ lo ∧ lo ≤ low R ∧ low R ≤ hi ∧ hi ≤ R + 2, fun _ _ h => h, ?_⟩
      refine ⟨_, rfl, _, rfl, _, _, rfl, rfl, _, 2, rfl, rfl, ⟨by decide, by decide⟩, ?_⟩
      have m1 : lo ≤ ((lo + hi) / 2) := by omega
      have m2 : ((lo + hi) / 2) < hi := by omega
      refine ⟨_, rfl, s1, fun p hp => ⟨_, rfl, _, 1, rfl, rfl, p, [((lo + hi) / 2)], R, b + 2, rfl, SqL.of upd_same, one ((lo + hi) / 2) (by omega) (by omega), hR, g1, cc, fun H3 s3 => ?_⟩⟩
      refine ⟨_, rfl, _, 1, rfl, rfl, s1, fun p2 hp2 => ⟨_, rfl, _, 1, rfl, rfl, p2, [((lo + hi) / 2) + 1], R, b + 2, rfl, SqL.of upd_same, one (((lo + hi) / 2) + 1) (by omega) (by omega), hR, g1, cc, fun H4 s4 => ?_⟩⟩
      have sm4 : Same H H4 := ((((sm.trans (same_new hp)).trans s3).trans (same_new hp2)).trans s4)
      have su := step_up (k := (lo + hi) / 2) (R := R) (by omega)
      refine ⟨_, _, rfl, rfl, _, rfl, ite2 (fun c => ?_) (fun c => ?_)⟩
      · have c' : 2 * ((lo + hi) / 2) < R + 2 := su.mp (of_decide_eq_true c)
        refine ⟨_, rfl, _, 1, rfl, rfl, (hi - (((lo + hi) / 2) + 1)).toNat, by omega, ((lo + hi) / 2) + 1, hi, _, rfl, rfl, sm4, by omega, by unfold low; omega, i3, i4⟩
      · have c' : ¬ 2 * ((lo + hi) / 2) < R + 2 := fun z => c (decide_eq_true (su.mpr z))
        refine ⟨_, rfl, (((lo + hi) / 2) - lo).toNat, by omega, lo, ((lo + hi) / 2), _, rfl, rfl, sm4, i1, i2, by unfold low; omega, by omega⟩
    · obtain ⟨rfl, c⟩ := h
      refine iteF ?_
      refine (fun fin => ⟨_, rfl, _, rfl, _, _, rfl, rfl, _, rfl, ite2 (fun c1 => ⟨_, rfl, _, 3, rfl, rfl, _, 2, rfl, rfl, ⟨by decide, by decide⟩, fin⟩) (fun c1 => ?_)⟩) ?_
      · clear i1 i2 i3 i4 c
        refine ⟨_, rfl, _, 2, rfl, rfl, 2, low R - 2, rfl, _, rfl, _, 3, rfl, rfl, ?_⟩
        obtain ⟨st, est⟩ : ∃ st, st = (if low R - 2 > 2 then low R - 2 else 2) := ⟨_, rfl⟩
        have st1 : 2 ≤ st ∧ st ≤ low R := by
          subst est
          split <;> omega
        refine ⟨st, low R + 3, by subst est; rfl, fun D hD => lc_range (lo := st) (n := (low R + 3 - st).toNat)
          (fun i H' => Same H H' ∧ ∃ ms : List Int, H' D = some (.lst (ms.map V.int)) ∧ ms = (List.range i).map fun j : Nat => rw1 (st + (j : Int)) R) ⟨sm.trans (same_new hD), [], upd_same, rfl⟩ ?_ ?_⟩
        · rintro i H5 hi ⟨sm5, ms, hms, ems⟩
          refine ⟨rfl, ?_⟩
          refine ⟨_, rfl, s1, fun p hp => ⟨_, rfl, _, 1, rfl, rfl, p, [st + (i : Int)], R, b + 2, rfl, SqL.of upd_same, one (st + (i : Int)) (by omega) (by omega), hR, g1, cc, fun H6 s6 => ?_⟩⟩
          have hms6 := s6 _ _ (same_new hp _ _ hms)
          refine ⟨_, 1, rfl, rfl, _, hms6, (by rw [List.length_map, ems, List.length_map, List.length_range]; exact small1000 (by omega)), fun c o e => ?_, ms ++ [rw1 (st + (i : Int)) R], ?_, ?_⟩
          · have hDn : H D = none := sm.free hD
            rw [upd_ne (ne_of_none e hDn)]
            exact s6 _ _ (same_new hp _ _ (sm5 _ _ e))
          · rw [upd_same, List.map_append]
            show some (HO.lst (_ ++ [V.int (rch [st + (i : Int)] R + 1 - 1)])) = _
            rw [Int.add_sub_cancel]
            rfl
          · rw [ems, List.range_succ, List.map_append]
            rfl
        · rintro H5 ⟨sm5, ms, hms, ems⟩
          refine ⟨D, ms, rfl, SqL.of hms, ?_, fun m hm hall => ?_⟩
          · rw [ems, List.length_map, List.length_range]
            omega
          · have eg : m = grow R := by
              have a : rw1 (low R) R ∈ ms := by
                rw [ems]
                refine List.mem_map.mpr ⟨(low R - st).toNat, List.mem_range.mpr (by omega), ?_⟩
                rw [show st + (((low R - st).toNat : Nat) : Int) = low R by omega]
              have h1 := hall _ a
              rw [ems] at hm
              obtain ⟨j, _, rfl⟩ := List.mem_map.mp hm
              have h2 := (rw1_le_grow (k := st + (j : Int)) (R := R) (by omega) hR).1
              unfold grow at h2 ⊢
              omega
            rw [eg]
            exact q _ sm5
      · have c1' : ¬ lo < hi := fun z => c1 (decide_eq_true z)
        have e : lo = (R + 3) / 2 := by unfold low at i2 i3; omega
        subst e
        exact fin
end
end Sq

set_option Elab.async false
set_option linter.all false
set_option maxRecDepth 100000
set_option maxHeartbeats 2000000
namespace Sq
open PySem PySem.Spec PyProof.Rows L2
/-- up 0, .., up (n - 1) -/
def ups (n : Nat) (v : Int) : List Int := (List.range n).map fun i : Nat => up i v
theorem ups_len (n : Nat) (v : Int) : (ups n v).length = n := by
  unfold ups
  rw [List.length_map, List.length_range]
theorem ups_at {n i : Nat} (v : Int) (h : i < n) : ((ups n v).map V.int)[i]? = some (.int (up i v)) := by
  unfold ups
  rw [List.getElem?_map, List.getElem?_map, List.getElem?_range h]
  rfl
theorem up_strict {v : Int} (hv : 1 ≤ v) {i j : Nat} (h : i < j) : up i v < up j v := by
  have := up_lt hv i
  have := up_mono hv (i := i + 1) (j := j) h
  omega
section
variable {P : Program} {w : World} {K : PySem.W.Frag} {mg : Str → Option Value} {base : Heap}
def spStepsR : Sp := fun vs H Q _ => ∃ (l d q : Addr) (mix cnt v : Int) (T b : Nat), vs = [.ref l, .int v, .ref q] ∧ Src H l d mix cnt ∧ cnt < 900000 ∧ 1 ≤ v ∧ v.natAbs < 2 ^ b ∧ b * 2 ^ T ≤ 200000 ∧ 0 < T ∧ T ≤ 12 ∧ q ≠ l ∧ q ≠ d ∧ H q = some (.lst ((ups (T + 1) v).map V.int)) ∧
  ∀ cnt' H', Src H' l d mix cnt' → cnt' ≤ cnt + 12 → Keep H H' l d → Q (.bl true) H'
theorem ok_lawstepsright {f : Addr} {fd : FuncData} (F : Fun K "_law_steps_right" "_law_steps_right" s_lawstepsright f fd) (B : Bi mg) (D_lawdraw : Df P w K mg base 1 "_law_draw" ["source", "many"] spDraw)
    (D_lawsame : Df P w K mg base 2 "_law_same" ["found", "wanted"] (spSame K 1)) (D_feweststeps : Df P w K mg base 3 "fewest_steps" ["length", "most"] spFewest) (D_bestreach : Df P w K mg base 3 "best_reach" ["steps", "most"] spBestReach) :
    FnOk P w K mg base CX0 4 f fd ["source", "goal", "bests"] spStepsR := by
  refine F.ok sc_lawstepsright (fun vs H Q E h => ?_) (fun cdv A outer s H vs Q E hr h => ?_)
  · obtain ⟨l, d, q, mix, cnt, v, T, b, rfl, _⟩ := h
    rfl
  · obtain ⟨l, d, q, mix, cnt, v, T, b, rfl, S, hc, hv, hb, hb2, hT, hT2, nl, nd, hq, hQ⟩ := h
    refine ⟨_, (pss_cons (ps_for PassesOwn.never rfl (pi_range1 (by rfl) B.n_range (pa_cons pe_int pa_nil)) (pg_name (i := 3) sc_lawstepsright.nd rfl (Or.inl rfl))
 (pss_cons (ps_set (i := 4) sc_lawstepsright.nd rfl (Or.inl rfl) (pe_callD D_lawdraw (hr.mono (by omega)) (by rfl) (pa_cons (pv 0) (pa_cons (pe_op op_sub (pe_callB (id := "len") (r := rLenK K) call_lenK (by rfl) B.n_len (by decide +kernel) (pa_cons (pv 2) pa_nil)) pe_int) pa_nil))))
 (pss_cons (ps_if (pt_cmpR op_lt (pe_ix (r := rIxL K) ix_list (pv 2) (pv 4) (fun _ _ => rfl)) (pe_op op_sub (pe_op op_pow pe_int pe_int) pe_int) (nomark _))
 (pss_cons (ps_set (i := 5) sc_lawstepsright.nd rfl (Or.inl rfl) (pe_callB (id := "min") (call_min2 rfl) (by rfl) B.n_min (by decide +kernel) (pa_cons (pe_op op_sub (pe_op op_pow pe_int pe_int) pe_int) (pa_cons (pe_op op_add (pe_op op_add (pe_ix (r := rIxL K) ix_list (pv 2) (pv 4) (fun _ _ => rfl)) pe_int) (pe_callD D_lawdraw (hr.mono (by omega)) (by rfl) (pa_cons (pv 0) (pa_cons (pe_op op_sub (pe_ix (r := rIxL K) ix_list (pv 2) (pe_op op_add (pv 4) pe_int) (fun _ _ => rfl)) (pe_ix (r := rIxL K) ix_list (pv 2) (pv 4) (fun _ _ => rfl))) pa_nil)))) pa_nil))))
 (pss_cons (ps_for PassesOwn.never rfl (pi_list (pe_lst (pa_cons (pv 5) (pa_cons (pe_op op_add (pe_ix (r := rIxL K) ix_list (pv 2) (pv 4) (fun _ _ => rfl)) pe_int) pa_nil)))) (pg_name (i := 6) sc_lawstepsright.nd rfl (Or.inl rfl))
 (pss_one (ps_if (pt_not (pt_val (pe_callD D_lawsame (hr.mono (by omega)) (by rfl) (pa_cons (pe_callD D_feweststeps (hr.mono (by omega)) (by rfl) (pa_cons (pv 6) (pa_cons (pv 1) pa_nil))) (pa_cons (pe_op op_add (pv 4) pe_int) pa_nil)))))
 (pss_one (ps_ret pe_bl))
 pss_nil)))
 (pss_one (ps_if (pt_cmpR op_ne (pe_callD D_feweststeps (hr.mono (by omega)) (by rfl) (pa_cons (pe_ix (r := rIxL K) ix_list (pv 2) (pv 4) (fun _ _ => rfl)) (pa_cons (pv 1) pa_nil))) (pv 4) (nomark _))
 (pss_one (ps_ret pe_bl))
 pss_nil))))
 pss_nil)
 (pss_one (ps_if (pt_cmpR op_ne (pe_callD D_feweststeps (hr.mono (by omega)) (by rfl) (pa_cons (pe_callD D_bestreach (hr.mono (by omega)) (by rfl) (pa_cons (pv 4) (pa_cons (pv 1) pa_nil))) (pa_cons (pv 1) pa_nil))) (pv 4) (nomark _))
 (pss_one (ps_ret pe_bl))
 pss_nil)))))
 (pss_one (ps_ret pe_bl))), ?_⟩
    have bw : ∀ {i : Nat}, i ≤ T → b * 2 ^ i ≤ 200000 := fun {i} h => pow_le_le h hb2
    refine ⟨6, rfl, by decide, by decide, for_range (lo := 0) (n := 6) (fun i σ H' => ∃ cnt' y3 y4 y5 y6, σ = [some (.ref l), some (.int v), some (.ref q), y3, y4, y5, y6] ∧ Src H' l d mix cnt' ∧ cnt' ≤ cnt + 2 * i ∧ Keep H H' l d)
      ⟨cnt, none, none, none, none, rfl, S, by omega, Keep.refl H l d⟩ ?_ ?_⟩
    · rintro i σ H1 hi ⟨cnt1, y3, y4, y5, y6, rfl, S1, hc1, k1⟩
      have hq1 := k1 _ _ hq nl nd
      -- at = _law_draw(source, len(bests) - 1)
      have el : ((List.map V.int (ups (T + 1) v)).length : Int) = (T : Int) + 1 := by rw [List.length_map, ups_len]; rfl
      refine ⟨_, rfl, _, rfl, q, _, rfl, .inl (SqL.of hq1), _, 1, rfl, rfl, l, d, mix, cnt1, (T : Int), by rw [el]; show [V.ref l, V.int ((T : Int) + 1 - 1)] = _; rw [Int.add_sub_cancel], S1, by omega, by omega, by omega, fun z cnt2 H2 z0 z1 S2 hc2 k2 => ?_⟩
      obtain ⟨t, rfl⟩ : ∃ t : Nat, z = (t : Int) := ⟨z.toNat, by omega⟩
      have hq2 := k2 _ _ hq1 nl nd
      have tT : t < T := by omega
      have at0 := atI_nat (ups_at (n := T + 1) v (show t < T + 1 by omega))
      have at1 : atI (List.map V.int (ups (T + 1) v)) ((t : Int) + 1) = some (.int (up (t + 1) v)) := at_of (by omega) (ups_at (n := T + 1) v (show t + 1 < T + 1 by omega))
      have ec : ((t + 1 : Nat) : Int) = (t : Int) + 1 := by omega
      have e0 : PyData.eqv (.int ((t + 1 : Nat) : Int)) (.int ((t : Int) + 1)) = true := by rw [ec]; exact eqv_refl' rfl
      have fw : ∀ x : Int, up t v < x → x ≤ up (t + 1) v → ∀ i, i < t + 1 → up i v < x := fun x h1 h2 i hi => by
        have := up_mono hv (i := i) (j := t) (by omega)
        omega
      have u0 := up_pos hv t
      have u1 := up_lt hv t
      refine tellNx (fun σ2 H3 => ∃ cnt' y5 y6, σ2 = [some (.ref l), some (.int v), some (.ref q), some (.int (0 + (i : Int))), some (.int (t : Int)), y5, y6] ∧ Src H3 l d mix cnt' ∧ cnt' ≤ cnt2 + 1 ∧ Keep H2 H3 l d) (fun N hN => ?_) (fun σ2 H3 h => ?_)
      · refine ⟨_, rfl, _, rfl, q, _, _, _, rfl, rfl, SqL.of hq2, at0, 10, 30, rfl, rfl, ⟨by decide, by decide, by decide⟩, _, 1, rfl, rfl, _, _, rfl, rfl, _, rfl, ite2 (fun c => ?_) (fun c => hN _ _ ⟨cnt2, y5, y6, rfl, S2, by omega, Keep.refl _ _ _⟩)⟩
        have c' : up t v < (10 : Int) ^ (30 : Int).toNat - 1 := of_decide_eq_true c
        have e30 : (10 : Int) ^ (30 : Int).toNat = 1000000000000000000000000000000 := by decide
        have ub : (up (t + 1) v).natAbs < 2 ^ (2 * 100) := grow_bits u0 (by rw [e30] at c'; omega)
        refine ⟨10, 30, rfl, rfl, ⟨by decide, by decide, by decide⟩, _, 1, rfl, rfl, _, rfl, _, rfl, q, _, _, _, rfl, rfl, SqL.of hq2, at0, _, 1, rfl, rfl, _, rfl, _, rfl, _, rfl, _, 1, rfl, rfl, q, _, _, _, rfl, rfl, SqL.of hq2, at1, _, rfl, _, rfl, q, _, _, _, rfl, rfl, SqL.of hq2, at0, _, _, rfl, rfl, l, d, mix, cnt2, up (t + 1) v - up t v, rfl, S2, by omega, by omega, by omega, fun z2 cnt3 H3 z20 z21 S3 hc3 k3 => ?_⟩
        have hq3 := k3 _ _ hq2 nl nd
        refine ⟨_, _, rfl, rfl, _, _, rfl, ?_⟩
        obtain ⟨run, er⟩ : ∃ run, run = (if up t v + 1 + z2 < (10 : Int) ^ (30 : Int).toNat - 1 then up t v + 1 + z2 else (10 : Int) ^ (30 : Int).toNat - 1) := ⟨_, rfl⟩
        have r1 : up t v < run ∧ run ≤ up (t + 1) v := by
          subst er
          split <;> omega
        refine ⟨_, rfl, _, rfl, _, rfl, q, _, _, _, rfl, rfl, SqL.of hq3, at0, _, 1, rfl, rfl, (by show 2 ≤ sizeLine; exact Nat.le_of_lt (small1000 (by decide))), fun p hp => ⟨p, rfl, ⟨_, SqL.of upd_same⟩, for_list (K := K) (a := p) (xs := [.int run, .int (up t v + 1)]) (fun j σ H' => ∃ y6, σ = [some (.ref l), some (.int v), some (.ref q), some (.int (0 + (i : Int))), some (.int (t : Int)), some (.int run), y6] ∧ Same (upd H3 p (.lst [.int run, .int (up t v + 1)])) H')
          ⟨y6, by subst er; rfl, by subst er; exact Same.refl _⟩ (fun j σ H' _ h => by obtain ⟨_, _, sm⟩ := h; exact SqL.of (sm _ _ upd_same)) ?_ ?_⟩⟩
        · rintro j x σ H4 hj ⟨y6, rfl, sm⟩
          have hx : ∃ m, x = V.int m ∧ up t v < m ∧ m ≤ up (t + 1) v := by
            match j, hj with
            | 0, hj => exact ⟨run, (Option.some.inj hj).symm, r1.1, r1.2⟩
            | 1, hj => exact ⟨up t v + 1, (Option.some.inj hj).symm, by omega, by omega⟩
          obtain ⟨m, rfl, m1, m2⟩ := hx
          refine ⟨_, rfl, _, rfl, m, v, t + 1, b, rfl, by omega, hv, hb, bw (by omega), m2, fw m m1 m2, fun H5 s5 => ⟨_, rfl, _, 1, rfl, rfl, .int _, .int _, _, _, rfl, .int _, .int _, rfl, rfl, (by show 0 < 1; decide), fun H6 s6 => ⟨true, congrArg V.bl e0, iteF ⟨_, rfl, (sm.trans s5).trans s6⟩⟩⟩⟩
        · rintro σ H4 ⟨y6, rfl, sm⟩
          have s34 := (same_new hp).trans sm
          have hq4 := s34 _ _ hq3
          refine ⟨_, rfl, _, rfl, q, _, _, _, rfl, rfl, SqL.of hq4, at0, _, rfl, up t v, v, t, b, rfl, by omega, hv, hb, bw (by omega), Int.le_refl _, fun i hi => up_strict hv hi, fun H5 s5 => ⟨_, rfl, rfl, _, rfl, iteNS rfl (hN _ _ ⟨cnt3, _, _, rfl, S3.same (s34.trans s5), by omega, k3.trans (Keep.of (s34.trans s5))⟩)⟩⟩
      · obtain ⟨cnt3, y5, y6, rfl, S3, hc3, k3⟩ := h
        refine ⟨_, rfl, _, rfl, t, v, b, rfl, hv, hb, bw (by omega), by omega, fun H4 s4 => ⟨_, rfl, up t v, v, t, b, rfl, by omega, hv, hb, bw (by omega), Int.le_refl _, fun i hi => up_strict hv hi, fun H5 s5 => ⟨_, rfl, rfl, _, rfl, iteNS rfl ?_⟩⟩⟩
        exact ⟨cnt3, _, _, _, _, rfl, S3.same (s4.trans s5), by omega, ((k1.trans k2).trans k3).trans (Keep.of (s4.trans s5))⟩
    · rintro σ H1 ⟨cnt1, y3, y4, y5, y6, rfl, S1, hc1, k1⟩
      exact hQ cnt1 H1 S1 (by omega) k1
end
end Sq

set_option Elab.async false
set_option linter.all false
set_option maxRecDepth 100000
set_option maxHeartbeats 4000000
namespace Sq
open PySem PySem.Spec PyProof.Rows L2
theorem rchok_of : ∀ {ks : List Int} {v : Int} {c : Nat}, (∀ k ∈ ks, 2 ≤ k ∧ k.natAbs < 2 ^ c) → 1 ≤ v → (v + 1).natAbs < 2 ^ c → c * (ks.length + 2) ≤ 900000 → RchOk ks v
  | [], _, _, _, _, _, _ => trivial
  | k :: ks, v, c, hk, hv, h, hc => by
    have h2 := hk k (List.mem_cons_self ..)
    have ht : ∀ x ∈ ks, 2 ≤ x ∧ x.natAbs < 2 ^ c := fun x hx => hk x (List.mem_cons_of_mem _ hx)
    have c1 : 1 ≤ c := by
      by_cases z : c = 0
      · subst z
        simp at h
        omega
      · omega
    have e : c * ((k :: ks).length + 2) = c * (ks.length + 1) + c + c := by
      rw [List.length_cons, show ks.length + 1 + 2 = (ks.length + 1) + 1 + 1 by omega, Nat.mul_add c _ 1, Nat.mul_add c _ 1, Nat.mul_one]
    have p := rch_pos ks v (fun x hx => (ht x hx).1) hv
    have e1 : 1 ≤ c * (ks.length + 1) := Nat.mul_pos (by omega) (by omega)
    refine ⟨h2.1, fun q => wide_mul (wide_le (by omega) (by omega : rch ks v + 3 - k ≤ rch ks v + 1) (rch_bits ht hv h)) h2.2 (by omega) (by omega) (by omega), rchok_of ht hv h ?_⟩
    have e2 : c * (ks.length + 2) = c * (ks.length + 1) + c := by rw [show ks.length + 2 = (ks.length + 1) + 1 by omega, Nat.mul_add c _ 1, Nat.mul_one]
    omega
theorem rowsOf_at {n : Nat} {v : Int} {m j : Nat} (h : j < m) : (rowsOf n v m)[j]? = some (pick (chs n v) (j : Int)) := by
  unfold rowsOf
  rw [List.getElem?_map, List.getElem?_range h]
  rfl
/-- the rows are the lists with the greatest reach -/
theorem rows_are {n : Nat} {v : Int} {ks : List Int} (hv : 1 ≤ v) (hk : ∀ k ∈ ks, 2 ≤ k) (hn : ks.length = n) : rch ks v ≤ up n v ∧ (rch ks v = up n v ↔ ks ∈ rowsOf n v (lens (chs n v)).toNat) := by
  obtain ⟨a, b⟩ := rch_best ks v hk hv
  rw [hn] at a b
  refine ⟨a, b.trans ⟨fun e => ?_, fun m => ?_⟩⟩
  · obtain ⟨p, p0, p1, rfl⟩ := pick_all (chs_full n v) e
    refine List.mem_map.mpr ⟨p.toNat, List.mem_range.mpr (by omega), ?_⟩
    rw [show ((p.toNat : Nat) : Int) = p by omega]
  · obtain ⟨j, _, rfl⟩ := List.mem_map.mp m
    exact pick_each _ (chs_full n v)
theorem at4 {z : Int} (h0 : 0 ≤ z) (h : z < 4) : ∃ m : Int, atI [V.int (-2), V.int (-1), V.int 1, V.int 2] z = some (.int m) ∧ m ≤ 2 := by
  have : z = 0 ∨ z = 1 ∨ z = 2 ∨ z = 3 := by omega
  rcases this with e | e | e | e
  · subst e
    exact ⟨-2, rfl, by decide⟩
  · subst e
    exact ⟨-1, rfl, by decide⟩
  · subst e
    exact ⟨1, rfl, by decide⟩
  · subst e
    exact ⟨2, rfl, by decide⟩
theorem pick_ok {n : Nat} {v : Int} (hv : 1 ≤ v) (z : Int) : (pick (chs n v) z).length = n ∧ (∀ k ∈ pick (chs n v) z, 2 ≤ k ∧ k ≤ up n v + 2) ∧ rch (pick (chs n v) z) v = up n v := by
  have e := pick_each (cs := chs n v) z (chs_full n v)
  have l : (pick (chs n v) z).length = n := by rw [pick_len, chs_len]
  have g := each_ge hv e
  have b := (rch_best _ v (fun k hk => (g k hk).1) hv).2
  rw [l] at b
  exact ⟨l, g, b.mpr e⟩
section
variable {P : Program} {w : World} {K : PySem.W.Frag} {mg : Str → Option Value} {base : Heap}
def spListsR : Sp := fun vs H Q _ => ∃ (l d : Addr) (mix cnt v : Int) (n b : Nat), vs = [.ref l, .int (n : Int), .int v, .int (up n v), .int (evens n v : Int)] ∧ Src H l d mix cnt ∧ cnt < 900000 ∧ 1 ≤ v ∧ v.natAbs < 2 ^ b ∧ b * 2 ^ n ≤ 26000 ∧ n ≤ 8 ∧
  ∀ cnt' H', Src H' l d mix cnt' → cnt' ≤ cnt + 24 → Keep H H' l d → Q (.bl true) H'
theorem ok_lawlistsright {f : Addr} {fd : FuncData} (F : Fun K "_law_lists_right" "_law_lists_right" s_lawlistsright f fd) (B : Bi mg) (D_lawdraw : Df P w K mg base 1 "_law_draw" ["source", "many"] spDraw)
    (D_lawleastrun : Df P w K mg base 1 "_law_least_run" ["row", "goal"] (spLeast K)) (G_bestlists : Dg P w K mg base 5 "best_lists" ["steps", "most"] spBestLists) (D_reach : Df P w K mg base 2 "reach" ["replacements", "most"] (spReach K)) :
    FnOk P w K mg base CX0 9 f fd ["source", "many", "goal", "due", "even"] spListsR := by
  refine F.ok sc_lawlistsright (fun vs H Q E h => ?_) (fun cdv A outer s H vs Q E hr h => ?_)
  · obtain ⟨l, d, mix, cnt, v, n, b, rfl, _⟩ := h
    rfl
  · obtain ⟨l, d, mix, cnt, v, n, b, rfl, S, hc, hv, hb, hb2, hn, hQ⟩ := h
    refine ⟨_, (pss_cons (ps_set (i := 5) sc_lawlistsright.nd rfl (Or.inr rfl) (pe_listGD G_bestlists (hr.mono (by omega)) (by rfl) (by rfl) B.n_list (pa_cons (pv 1) (pa_cons (pv 2) pa_nil))))
 (pss_cons (ps_setLc (own := [("row", 11)]) (g := gName 11) (i := 6) rfl sc_lawlistsright.nd rfl rfl (sw_true rfl rfl rfl (by decide +kernel)) (pi_list (pv 5)) (blkOk_by (own := [("row", 11)]) (N := ["source", "many", "goal", "due", "even", "rows", "saved", "power", "time", "falls", "reaches_here", "row", "at", "more", "told", "spot"]) (sc := defScope s_lawlistsright) (by decide +kernel)) (fun _ _ _ _ _ => pg_name (i := 11) sc_lawlistsright.nd rfl (Or.inl rfl)) (fun _ _ _ _ _ => pts_nil) (fun _ _ _ _ _ => (pe_callTy (T := "list") (r := rListK K) call_listK (by rfl) B.n_list (by decide +kernel) (pa_cons (pv 11) pa_nil))))
 (pss_cons (ps_set (i := 7) sc_lawlistsright.nd rfl (Or.inl rfl) pe_int)
 (pss_cons (ps_for PassesOwn.never rfl (pi_range1 (by rfl) B.n_range (pa_cons (pv 4) pa_nil)) (pg_name (i := 8) sc_lawlistsright.nd rfl (Or.inl rfl))
 (pss_one (ps_set (i := 7) sc_lawlistsright.nd rfl (Or.inl rfl) (pe_op op_mul (pv 7) pe_int))))
 (pss_cons (ps_setLc (own := [("spot", 15)]) (g := gName 15) (i := 9) rfl sc_lawlistsright.nd rfl rfl (sw_true rfl rfl rfl (by decide +kernel)) (pi_range2 (by rfl) B.n_range (pa_cons pe_int (pa_cons (pe_callB (id := "len") (r := rLenK K) call_lenK (by rfl) B.n_len (by decide +kernel) (pa_cons (pv 5) pa_nil)) pa_nil))) (blkOk_by (own := [("spot", 15)]) (N := ["source", "many", "goal", "due", "even", "rows", "saved", "power", "time", "falls", "reaches_here", "row", "at", "more", "told", "spot"]) (sc := defScope s_lawlistsright) (by decide +kernel)) (fun _ _ _ _ _ => pg_name (i := 15) sc_lawlistsright.nd rfl (Or.inl rfl)) (fun _ _ _ _ _ => pts_one (pt_cmpR (r := rLeDc K) (op_leDc hr.units) (pe_ix (r := rIxL K) ix_list (pv 5) (pv 15) (fun _ _ => rfl)) (pe_ix (r := rIxL K) ix_list (pv 5) (pe_op op_sub (pv 15) pe_int) (fun _ _ => rfl)) (nomark _))) (fun _ _ _ _ _ => (pv 15)))
 (pss_cons (ps_if (PW.pt (pw_or (pt_cmpR op_ne (pe_callB (id := "len") (r := rLenK K) call_lenK (by rfl) B.n_len (by decide +kernel) (pa_cons (pv 5) pa_nil)) (pv 7) (nomark _)) (pw_or1 (pt_cmpR (op_neD hr.units) (pv 9) (pe_lst pa_nil) (nomark _)))))
 (pss_one (ps_ret pe_bl))
 pss_nil)
 (pss_cons (ps_setLc (own := [("row", 11)]) (g := gName 11) (i := 10) rfl sc_lawlistsright.nd rfl rfl (sw_true rfl rfl rfl (by decide +kernel)) (pi_list (pv 5)) (blkOk_by (own := [("row", 11)]) (N := ["source", "many", "goal", "due", "even", "rows", "saved", "power", "time", "falls", "reaches_here", "row", "at", "more", "told", "spot"]) (sc := defScope s_lawlistsright) (by decide +kernel)) (fun _ _ _ _ _ => pg_name (i := 11) sc_lawlistsright.nd rfl (Or.inl rfl)) (fun _ _ _ _ _ => pts_nil) (fun _ _ _ _ _ => (pe_op op_sub (pe_callD D_lawleastrun (hr.mono (by omega)) (by rfl) (pa_cons (pv 11) (pa_cons (pe_op op_add (pv 2) pe_int) pa_nil))) pe_int)))
 (pss_cons (ps_if (PW.pt (pw_or (pt_cmpR (op_neD hr.units) (pv 10) (pe_op op_rep (pe_lst (pa_cons (pv 3) pa_nil)) (pv 7)) (nomark _)) (pw_or1 (pt_cmpR (op_neD hr.units) (pe_lc (own := [("row", 11)]) (g := gName 11) rfl sc_lawlistsright.nd (pi_list (pv 5)) (blkOk_by (own := [("row", 11)]) (N := ["source", "many", "goal", "due", "even", "rows", "saved", "power", "time", "falls", "reaches_here", "row", "at", "more", "told", "spot"]) (sc := defScope s_lawlistsright) (by decide +kernel)) (fun _ _ _ _ _ => pg_name (i := 11) sc_lawlistsright.nd rfl (Or.inl rfl)) (fun _ _ _ _ _ => pts_one (pt_cmpR op_ne (pe_callB (id := "len") (r := rLenK K) call_lenK (by rfl) B.n_len (by decide +kernel) (pa_cons (pv 11) pa_nil)) (pv 1) (nomark _))) (fun _ _ _ _ _ => (pv 11))) (pe_lst pa_nil) (nomark _)))))
 (pss_one (ps_ret pe_bl))
 pss_nil)
 (pss_cons (ps_for PassesOwn.never rfl (pi_range1 (by rfl) B.n_range (pa_cons (pe_op op_mul pe_int (pe_callTy (T := "int") call_int1 (by rfl) B.n_int (by decide +kernel) (pa_cons (pe_cmpR op_gt (pv 1) pe_int (nomark _)) pa_nil))) pa_nil)) (pg_name (i := 8) sc_lawlistsright.nd rfl (Or.inl rfl))
 (pss_cons (ps_set (i := 11) sc_lawlistsright.nd rfl (Or.inl rfl) (pe_callTy (T := "list") (r := rListK K) call_listK (by rfl) B.n_list (by decide +kernel) (pa_cons (pe_ix (r := rIxL K) ix_list (pv 5) (pe_callD D_lawdraw (hr.mono (by omega)) (by rfl) (pa_cons (pv 0) (pa_cons (pv 7) pa_nil))) (fun _ _ => rfl)) pa_nil)))
 (pss_cons (ps_set (i := 12) sc_lawlistsright.nd rfl (Or.inl rfl) (pe_callD D_lawdraw (hr.mono (by omega)) (by rfl) (pa_cons (pv 0) (pa_cons (pv 1) pa_nil))))
 (pss_cons (ps_set (i := 13) sc_lawlistsright.nd rfl (Or.inl rfl) (pe_ix (r := rIxL K) ix_list (pe_lst (pa_cons (pe_un un_neg pe_int) (pa_cons (pe_un un_neg pe_int) (pa_cons pe_int (pa_cons pe_int pa_nil))))) (pe_callD D_lawdraw (hr.mono (by omega)) (by rfl) (pa_cons (pv 0) (pa_cons pe_int pa_nil))) (fun _ _ => rfl)))
 (pss_cons (ps_asg (pe_callB (id := "max") (call_max2 rfl) (by rfl) B.n_max (by decide +kernel) (pa_cons pe_int (pa_cons (pe_op op_add (pe_ix (r := rIxL K) ix_list (pv 11) (pv 12) (fun _ _ => rfl)) (pv 13)) pa_nil))) (pg_sub (pv 11) (pv 12) set_list))
 (pss_cons (ps_set (i := 14) sc_lawlistsright.nd rfl (Or.inl rfl) (pe_op op_sub (pe_callD D_lawleastrun (hr.mono (by omega)) (by rfl) (pa_cons (pv 11) (pa_cons (pe_op op_add (pv 2) pe_int) pa_nil))) pe_int))
 (pss_cons (ps_if (PW.pt (pw_or (pt_cmpR op_ne (pe_cmpR op_eq (pv 14) (pv 3) (nomark _)) (pe_cmpR (r := rInD K) (op_inD (room65 hr)) (pv 11) (pv 6) rfl) (nomark _)) (pw_or1 (pt_cmpR op_gt (pv 14) (pv 3) (nomark _)))))
 (pss_one (ps_ret pe_bl))
 pss_nil)
 (pss_cons (ps_if (pt_cmpR op_ne (pe_callD D_reach (hr.mono (by omega)) (by rfl) (pa_cons (pe_ix (r := rIxL K) ix_list (pv 5) (pe_callD D_lawdraw (hr.mono (by omega)) (by rfl) (pa_cons (pv 0) (pa_cons (pv 7) pa_nil))) (fun _ _ => rfl)) (pa_cons (pv 2) pa_nil))) (pv 3) (nomark _))
 (pss_one (ps_ret pe_bl))
 pss_nil)
 (pss_one (ps_if (PW.pt (pw_and (pt_cmpR op_le (pe_callB (id := "max") (cr_max rfl) (by rfl) B.n_max (by decide +kernel) (pa_cons (pv 11) pa_nil)) (pe_op op_pow pe_int pe_int) (nomark _)) (pw_and1 (pt_cmpR op_ne (pe_callD D_reach (hr.mono (by omega)) (by rfl) (pa_cons (pv 11) (pa_cons (pv 2) pa_nil))) (pv 14) (nomark _)))))
 (pss_one (ps_ret pe_bl))
 pss_nil))))))))))
 (pss_one (ps_ret pe_bl))))))))))), ?_⟩
    refine ⟨_, rfl, _, rfl, n, v, b, rfl, hv, hb, Nat.le_trans hb2 (by decide), hn, fun as H1 s1 ra1 fr p hp => ?_⟩
    obtain ⟨M, eM⟩ : ∃ M, M = (lens (chs n v)).toNat := ⟨_, rfl⟩
    rw [← eM] at ra1
    have hl0 := lens_pos (chs_full n v)
    have hl8 := lens_le hn v
    have la : as.length = M := by rw [ra1.len, rowsOf_len]
    obtain ⟨R, eR⟩ : ∃ R, R = rowsOf n v M := ⟨_, rfl⟩
    rw [← eR] at ra1
    have lR : R.length = M := by rw [eR, rowsOf_len]
    have hRat : ∀ j, j < M → R[j]? = some (pick (chs n v) (j : Int)) := fun j hj => by rw [eR]; exact rowsOf_at hj
    have hHp : H p = none := s1.free hp
    have nap : p ∉ as := fun z => by
      obtain ⟨i, hi, e⟩ := List.mem_iff_getElem.mp z
      obtain ⟨a, ha, hh⟩ := ra1.get (List.getElem?_eq_getElem (show i < R.length by omega))
      rw [List.getElem?_eq_getElem hi, e] at ha
      cases ha
      rw [hp] at hh
      cases hh
    have ra2 : RowsAt (upd H1 p (.lst (as.map V.ref))) as R := ra1.upd nap
    have sp2 : (upd H1 p (.lst (as.map V.ref))) p = some (.lst (as.map V.ref)) := upd_same
    have sm2 : Same H (upd H1 p (.lst (as.map V.ref))) := s1.trans (same_new hp)
    generalize (upd H1 p (.lst (as.map V.ref))) = H2 at ra2 sp2 sm2 ⊢
    -- saved = [list(row) for row in rows]
    refine ⟨_, rfl, p, rfl, ⟨_, SqL.of sp2⟩, fun D hD => lc_list (K := K) (a := p) (xs := as.map V.ref) (fun i H' => ∃ bs, Same H2 H' ∧ H' D = some (.lst (bs.map V.ref)) ∧ RowsAt H' bs (R.take i) ∧ D ∉ bs ∧ ∀ z ∈ bs, H2 z = none)
      ⟨[], same_new hD, upd_same, trivial, (fun z => nomatch z), fun _ z => nomatch z⟩ (fun i H' _ h => by obtain ⟨_, sm, _⟩ := h; exact SqL.of (sm _ _ sp2)) ?_ ?_⟩
    · rintro i x H' hx ⟨bs, sm, hDD, rb, off, frb⟩
      obtain ⟨a, ha, rfl⟩ := map_ref hx
      have hiM : i < M := by
        have := (List.getElem?_eq_some_iff.mp ha).1
        omega
      obtain ⟨r, hr'⟩ : ∃ r, R[i]? = some r := ⟨_, List.getElem?_eq_getElem (by omega)⟩
      obtain ⟨a', ha', har⟩ := ra2.get hr'
      rw [ha] at ha'
      cases ha'
      refine ⟨rfl, _, rfl, a, _, rfl, .inl (SqL.of (sm _ _ har)), fun t ht => ?_⟩
      have nDt : D ≠ t := ne_of_none hDD ht
      have lb : bs.length = i := by rw [rb.len, List.length_take]; omega
      refine ⟨_, same_new ht _ _ hDD, (by rw [List.length_map]; exact small1000 (by omega)), bs ++ [t], fun c o e => ?_, ?_, ?_, ?_, ?_⟩
      · rw [upd_ne (ne_of_none e hD)]
        exact same_new ht _ _ (sm _ _ e)
      · rw [upd_same, List.map_append]
        rfl
      · rw [List.take_add_one, hr']
        refine RowsAt.app ((rb.same (same_new ht)).upd off) ⟨?_, trivial⟩
        rw [upd_ne nDt.symm, upd_same]
      · intro z
        rcases List.mem_append.mp z with z | z
        · exact off z
        · exact nDt (List.mem_singleton.mp z)
      · intro q z
        rcases List.mem_append.mp z with z | z
        · exact frb q z
        · rw [List.mem_singleton.mp z]
          exact sm.free ht
    rintro H3 ⟨bs, sm3, hD3, rb3, offD, frb⟩
    have eT : R.take (as.map V.ref).length = R := List.take_of_length_le (by rw [List.length_map]; omega)
    rw [eT] at rb3
    have ra3 := ra2.same sm3
    have sp3 := sm3 _ _ sp2
    have smH3 := sm2.trans sm3
    -- power
    have eP : (M : Int) = (2 : Int) ^ evens n v := by
      have := lens_chs n v
      omega
    refine ⟨_, rfl, (evens n v : Int), rfl, by omega, by have := evens_le n v; omega, for_range (lo := 0) (n := ((evens n v : Nat) : Int).toNat) (fun i σ H' => ∃ y8, H' = H3 ∧ σ = [some (.ref l), some (.int (n : Int)), some (.int v), some (.int (up n v)), some (.int (evens n v : Int)), some (.ref p), some (.ref D), some (.int ((2 : Int) ^ i)), y8, none, none, none, none, none, none, none])
      ⟨none, rfl, rfl⟩ ?_ ?_⟩
    · rintro i σ H' hi ⟨y8, rfl, rfl⟩
      refine ⟨_, rfl, _, 2, rfl, rfl, .inr ⟨by decide, by decide⟩, some (.int (0 + (i : Int))), rfl, ?_⟩
      rw [Int.pow_succ]
      rfl
    rintro σ H' ⟨y8, rfl, rfl⟩
    have ev2 : ((evens n v : Nat) : Int).toNat = evens n v := by omega
    rw [ev2, ← eP]
    -- falls
    have alen : ((as.map V.ref).length : Int) = (M : Int) := by rw [List.length_map, la]
    refine ⟨_, rfl, p, _, rfl, .inl (SqL.of sp3), 1, (M : Int), by rw [alen], ⟨by decide, by decide, by omega, by omega⟩, fun Fa hF => lc_range (lo := 1) (n := ((M : Int) - 1).toNat) (fun i H4 => Same H' H4 ∧ H4 Fa = some (.lst [])) ⟨same_new hF, upd_same⟩ ?_ ?_⟩
    · rintro i H4 hi ⟨sm, hFF⟩
      refine ⟨rfl, ?_⟩
      obtain ⟨a0, h0, g0⟩ := ra3.get (hRat i (by omega))
      obtain ⟨a1, h1, g1⟩ := ra3.get (hRat (i + 1) (by omega))
      refine ⟨_, rfl, _, rfl, p, _, 1 + (i : Int), .ref a1, rfl, rfl, SqL.of (sm _ _ sp3), at_of (j := i + 1) (by omega) (by rw [List.getElem?_map, h1]; rfl), ?_⟩
      refine ⟨_, rfl, _, rfl, _, 1, rfl, rfl, p, _, _, .ref a0, rfl, rfl, SqL.of (sm _ _ sp3), at_of (j := i) (by omega) (by rw [List.getElem?_map, h0]; rfl), ?_⟩
      refine ⟨_, _, .lst (SqL.of (sm _ _ g1)) (dp_ints _), .lst (SqL.of (sm _ _ g0)) (dp_ints _), alike_ints _ _, (fun z => nomatch z), Nat.le_trans (dep40 _) (by decide), false, ?_, iteF ⟨sm, hFF⟩⟩
      exact congrArg V.bl (by rw [lt_lx (pick_lx (chs_full n v) (chs_asc n v) (by omega) (by omega) (by omega))]; rfl)
    rintro H4 ⟨sm4, hF4⟩
    have sp4 := sm4 _ _ sp3
    -- the count and the order
    refine ⟨_, rfl, p, _, rfl, .inl (SqL.of sp4), _, rfl, rfl, _, rfl, iteNS (congrArg V.int alen) ?_⟩
    refine ⟨_, rfl, Nat.zero_le _, fun t5 ht5 => ⟨.list [], .list [], .lst (SqL.of (same_new ht5 _ _ hF4)) .nil, .lst (SqL.of upd_same) .nil, shaped_ints [], shaped_ints [], false, rfl, iteF ?_⟩⟩
    have sm5 := sm4.trans (same_new (o := .lst []) ht5)
    have ra5 := ra3.same sm5
    have rb5 := rb3.same sm5
    have sp5 := sm5 _ _ sp3
    have hD5 := sm5 _ _ hD3
    have s05 := smH3.trans sm5
    generalize (upd H4 t5 (.lst [])) = H5 at sm5 ra5 rb5 sp5 hD5 s05 ⊢
    -- sizes
    have ub := up_bits hv hb n
    have vu : v ≤ up n v := up_mono hv (i := 0) (Nat.zero_le n)
    obtain ⟨c, ec⟩ : ∃ c, c = b * 2 ^ n + 3 := ⟨_, rfl⟩
    have cb : ∀ x : Int, 0 ≤ x → x ≤ up n v + 4 → x.natAbs < 2 ^ c := fun x h0 h1 => by
      have e : 2 ^ c = 8 * 2 ^ (b * 2 ^ n) := by rw [ec, Nat.pow_add]; omega
      omega
    have vc : (v + 1).natAbs < 2 ^ c := cb _ (by omega) (by omega)
    have cc : c * (n + 2) ≤ 900000 := Nat.le_trans (Nat.mul_le_mul (show c ≤ 26003 by omega) (show n + 2 ≤ 10 by omega)) (by decide)
    -- reaches_here
    refine ⟨_, rfl, p, rfl, ⟨_, SqL.of sp5⟩, fun G hG => lc_list (K := K) (a := p) (xs := as.map V.ref) (fun i H' => Same H5 H' ∧ H' G = some (.lst ((List.replicate i (up n v)).map V.int)))
      ⟨same_new hG, upd_same⟩ (fun i H' _ h => SqL.of (h.1 _ _ sp5)) ?_ ?_⟩
    · rintro i x H6 hx ⟨sm, hGG⟩
      obtain ⟨a, ha, rfl⟩ := map_ref hx
      have hiM : i < M := by
        have := (List.getElem?_eq_some_iff.mp ha).1
        omega
      obtain ⟨a', ha', har⟩ := ra5.get (hRat i hiM)
      rw [ha] at ha'
      cases ha'
      obtain ⟨pl, pg, pr⟩ := pick_ok (n := n) hv (i : Int)
      refine ⟨rfl, _, rfl, _, rfl, _, 1, rfl, rfl, a, pick (chs n v) (i : Int), v, c, rfl, SqL.of (sm _ _ har), fun k hk => ⟨(pg k hk).1, cb k (by have := pg k hk; omega) (by have := pg k hk; omega)⟩, hv, vc, by rw [pl]; exact cc, fun H7 s7 => ⟨_, 1, rfl, rfl, _, s7 _ _ hGG, ?_, fun q o e => ?_, ?_⟩⟩
      · rw [List.length_map, List.length_replicate]
        exact small1000 (by omega)
      · rw [upd_ne (ne_of_none e hG)]
        exact s7 _ _ (sm _ _ e)
      · rw [upd_same, List.replicate_succ', List.map_append]
        show some (HO.lst (_ ++ [V.int (rch (pick (chs n v) (i : Int)) v + 1 - 1)])) = _
        rw [Int.add_sub_cancel, pr]
        rfl
    rintro H6 ⟨sm6, hG6⟩
    rw [List.length_map, la] at hG6
    have sp6 := sm6 _ _ sp5
    refine ⟨_, rfl, _, rfl, Nat.le_of_lt (small1000 (show 1 ≤ 1000 by decide)), fun u hu => ⟨_, rfl, u, (M : Int), _, rfl, rfl, upd_same, by omega, by omega, ?_, fun t7 ht7 => ?_⟩⟩
    · show 1 * ((M : Int)).toNat ≤ sizeLine
      exact Nat.le_of_lt (small1000 (by omega))
    have efl : (List.replicate ((M : Int)).toNat [V.int (up n v)]).flatten = (List.replicate M (up n v)).map V.int := by
      rw [show ((M : Int)).toNat = M by omega, List.map_replicate]
      have : ∀ k, (List.replicate k [V.int (up n v)]).flatten = List.replicate k (V.int (up n v)) := fun k => by
        induction k with
        | zero => rfl
        | succ k ih =>
          rw [List.replicate_succ, List.flatten_cons, ih, List.replicate_succ]
          rfl
      exact this M
    rw [efl]
    refine ⟨.list ((List.replicate M (up n v)).map PyData.int), .list ((List.replicate M (up n v)).map PyData.int), .lst (SqL.of (same_new ht7 _ _ (same_new hu _ _ hG6))) (dp_ints _), .lst (SqL.of upd_same) (dp_ints _), shaped_ints _, shaped_ints _, false, ?_, iteF ?_⟩
    · exact congrArg V.bl (by rw [SeqAt.eqv_refl (.list ((List.replicate M (up n v)).map PyData.int)) (lays_ints _)]; rfl)
    have sm7 := (sm6.trans (same_new (o := .lst [.int (up n v)]) hu)).trans (same_new (o := .lst ((List.replicate M (up n v)).map V.int)) ht7)
    generalize (upd (upd H6 u (.lst [.int (up n v)])) t7 (.lst ((List.replicate M (up n v)).map V.int))) = H7 at sm7 ⊢
    have sp7 := sm7 _ _ sp5
    have ra7 := ra5.same sm7
    refine ⟨_, rfl, p, rfl, ⟨_, SqL.of sp7⟩, fun L hL => lc_list (K := K) (a := p) (xs := as.map V.ref) (fun i H' => Same H7 H' ∧ H' L = some (.lst []))
      ⟨same_new hL, upd_same⟩ (fun i H' _ h => SqL.of (h.1 _ _ sp7)) ?_ ?_⟩
    · rintro i x H8 hx ⟨sm, hLL⟩
      obtain ⟨a, ha, rfl⟩ := map_ref hx
      have hiM : i < M := by
        have := (List.getElem?_eq_some_iff.mp ha).1
        omega
      obtain ⟨a', ha', har⟩ := ra7.get (hRat i hiM)
      rw [ha] at ha'
      cases ha'
      obtain ⟨pl, pg, pr⟩ := pick_ok (n := n) hv (i : Int)
      refine ⟨rfl, _, rfl, a, _, rfl, .inl (SqL.of (sm _ _ har)), _, rfl, rfl, _, rfl, iteNS (congrArg V.int (by rw [List.length_map, pl])) ⟨sm, hLL⟩⟩
    rintro H8 ⟨sm8, hL8⟩
    refine ⟨Nat.zero_le _, fun t9 ht9 => ⟨.list [], .list [], .lst (SqL.of (same_new ht9 _ _ hL8)) .nil, .lst (SqL.of upd_same) .nil, shaped_ints [], shaped_ints [], false, rfl, iteF ?_⟩⟩
    have sm9 := (sm7.trans sm8).trans (same_new (o := .lst []) ht9)
    generalize (upd H8 t9 (.lst [])) = H9 at sm9 ⊢
    have sp9 := sm9 _ _ sp5
    have ra9 := ra5.same sm9
    have rb9 := rb5.same sm9
    have hD9 := sm9 _ _ hD5
    have s09 := s05.trans sm9
    have S9 := S.same s09
    have nlas : l ∉ as := fun z => S.nel (fr l z) rfl
    have ndas : d ∉ as := fun z => S.ned (fr d z) rfl
    have nlbs : l ∉ bs := fun z => S.nel (sm2.free (frb l z)) rfl
    have ndbs : d ∉ bs := fun z => S.ned (sm2.free (frb d z)) rfl
    have npl := S.nel hHp
    have npd := S.ned hHp
    have nDl := S.nel (sm2.free hD)
    have nDd := S.ned (sm2.free hD)
    -- six changed rows
    refine ⟨_, rfl, (n : Int), 0, rfl, rfl, .inr ⟨_, rfl, 6, _, rfl, rfl, .inl ⟨by decide, by decide⟩, 6 * (if decide ((0 : Int) < n) = true then 1 else 0), rfl, by split <;> decide, by split <;> decide, ?_⟩⟩
    refine for_range (lo := 0) (n := (6 * (if decide ((0 : Int) < n) = true then (1 : Int) else 0)).toNat) (fun i σ H' => ∃ cnt' y8 y11 y12 y13 y14, σ = [some (.ref l), some (.int (n : Int)), some (.int v), some (.int (up n v)), some (.int (evens n v : Int)), some (.ref p), some (.ref D), some (.int (M : Int)), y8, some (.ref Fa), some (.ref G), y11, y12, y13, y14, none] ∧ Src H' l d mix cnt' ∧ cnt' ≤ cnt + 4 * i ∧ Keep H9 H' l d)
      ⟨cnt, y8, none, none, none, none, rfl, S9, by omega, Keep.refl _ _ _⟩ ?_ ?_
    · rintro i σ Ha hi ⟨cnt1, y8, y11, y12, y13, y14, rfl, S1, hc1, k1⟩
      have n0 : 0 < n := by
        by_cases z : n = 0
        · subst z
          simp at hi
        · omega
      have i6 : i < 6 := by
        rw [if_pos (decide_eq_true (show (0 : Int) < n by omega))] at hi
        exact hi
      -- row = list(rows[..])
      refine ⟨_, rfl, _, rfl, _, rfl, l, d, mix, cnt1, (M : Int), rfl, S1, by omega, by omega, by omega, fun z cnt2 H2' z0 z1 S2 hc2 k2 => ?_⟩
      obtain ⟨j, rfl⟩ : ∃ j : Nat, z = (j : Int) := ⟨z.toNat, by omega⟩
      have k12 := k1.trans k2
      obtain ⟨a, ha, ga⟩ := ra9.get (hRat j (by omega))
      have has : a ∈ as := List.mem_of_getElem? ha
      have gal : a ≠ l := fun z => nlas (z ▸ has)
      have gad : a ≠ d := fun z => ndas (z ▸ has)
      refine ⟨p, _, _, .ref a, rfl, rfl, SqL.of (k12 _ _ sp9 npl npd), at_of rfl (by rw [List.getElem?_map, ha]; rfl), a, _, rfl, .inl (SqL.of (k12 _ _ ga gal gad)), fun r hr0 => ?_⟩
      obtain ⟨pl, pg, pr⟩ := pick_ok (n := n) hv (j : Int)
      generalize eks : pick (chs n v) (j : Int) = ks at pl pg pr ga ⊢
      have hr9 := k12.free S2 hr0
      have nrl := S2.nel hr0
      have nrd := S2.ned hr0
      have S3 := S2.same (same_new (o := .lst (ks.map V.int)) hr0)
      have k3 := k12.new (o := .lst (ks.map V.int)) hr0
      have gr3 : (upd H2' r (.lst (ks.map V.int))) r = some (.lst (ks.map V.int)) := upd_same
      generalize (upd H2' r (.lst (ks.map V.int))) = H3' at S3 k3 gr3 ⊢
      -- at
      refine ⟨_, rfl, _, rfl, l, d, mix, cnt2, (n : Int), rfl, S3, by omega, by omega, by omega, fun z cnt3 H4' z0 z1 S4 hc3 k4 => ?_⟩
      obtain ⟨t, rfl⟩ : ∃ t : Nat, z = (t : Int) := ⟨z.toNat, by omega⟩
      have gr4 := k4 _ _ gr3 nrl nrd
      -- more
      refine ⟨2, rfl, 1, rfl, Nat.le_of_lt (small1000 (show 4 ≤ 1000 by decide)), fun q hq => ?_⟩
      refine ⟨_, rfl, l, d, mix, cnt3, 4, rfl, S4.same (same_new hq), by omega, by decide, by decide, fun z3 cnt4 H5' z30 z31 S5 hc4 k5 => ?_⟩
      obtain ⟨m, em, m2⟩ := at4 z30 z31
      have nql := S4.nel hq
      have nqd := S4.ned hq
      refine ⟨q, _, z3, .int m, rfl, rfl, SqL.of (k5 _ _ upd_same nql nqd), em, ?_⟩
      have gr5 := k5 _ _ (same_new hq _ _ gr4) nrl nrd
      have k45 : Keep H9 H5' l d := ((k3.trans k4).new hq).trans k5
      -- row[at] = max(2, row[at] + more)
      have tn : t < ks.length := by omega
      obtain ⟨e, ee⟩ : ∃ e, ks[t]? = some e := ⟨_, List.getElem?_eq_getElem tn⟩
      have em' := pg e (List.mem_of_getElem? ee)
      have eat : atI (ks.map V.int) (t : Int) = some (.int e) := at_of rfl (by rw [List.getElem?_map, ee]; rfl)
      refine ⟨_, rfl, _, rfl, r, _, _, _, rfl, rfl, SqL.of gr5, eat, _, rfl, e, m, rfl, rfl, 2, e + m, rfl, ?_⟩
      obtain ⟨k, ek⟩ : ∃ k, k = (if e + m > 2 then e + m else 2) := ⟨_, rfl⟩
      have k2' : 2 ≤ k ∧ k ≤ up n v + 4 := by
        subst ek
        split <;> omega
      refine ⟨_, rfl, _, rfl, r, _, (t : Int), t, rfl, rfl, gr5, (by rw [List.length_map]; unfold ixN; rw [if_pos (by omega), if_pos (by omega)]; simp), ?_⟩
      rw [← ek, ← List.map_set]
      have k6 : Keep H9 (upd H5' r (.lst ((ks.set t k).map V.int))) l d := fun b o e n1 n2 => by
        rw [upd_ne (ne_of_none e hr9)]
        exact k45 b o e n1 n2
      have S6 : Src (upd H5' r (.lst ((ks.set t k).map V.int))) l d mix cnt4 := by
        obtain ⟨cur, ds, h1, h2⟩ := S5.ob
        exact ⟨⟨cur, ds, by rw [upd_ne nrl.symm]; exact h1, by rw [upd_ne nrd.symm]; exact h2⟩, S5.m0, S5.m1, S5.c0, S5.ne⟩
      have gr6 : (upd H5' r (.lst ((ks.set t k).map V.int))) r = some (.lst ((ks.set t k).map V.int)) := upd_same
      have k6len : (ks.set t k).length = n := by rw [List.length_set, pl]
      have k6ge : ∀ x ∈ ks.set t k, 2 ≤ x ∧ x.natAbs < 2 ^ c := fun x hx => by
        rcases List.mem_or_eq_of_mem_set hx with z | z
        · have := pg x z
          exact ⟨this.1, cb x (by omega) (by omega)⟩
        · rw [z]
          exact ⟨k2'.1, cb k (by omega) k2'.2⟩
      obtain ⟨q1, q2⟩ := rows_are (n := n) hv (fun x hx => (k6ge x hx).1) k6len
      rw [← eM, ← eR] at q2
      have ok6 := rchok_of k6ge hv vc (by rw [k6len]; exact cc)
      generalize (upd H5' r (.lst ((ks.set t k).map V.int))) = H6' at k6 S6 gr6 ⊢
      generalize ks.set t k = ks' at k6len k6ge q1 q2 ok6 gr6 ⊢
      -- told
      refine ⟨_, rfl, _, rfl, _, 1, rfl, rfl, r, ks', v, c, rfl, SqL.of gr6, k6ge, hv, vc, by rw [k6len]; exact cc, fun H7' s7 => ⟨_, 1, rfl, rfl, ?_⟩⟩
      have gr7 := s7 _ _ gr6
      have k7 := k6.trans (Keep.of (l := l) (d := d) s7)
      have S7 := S6.same s7
      have gD7 := k7 _ _ hD9 nDl nDd
      have rb7 := RowsAt.keep k7 rb9 nlbs ndbs
      -- is it a best one
      refine ⟨_, rfl, _, rfl, rfl, _, rfl, _, rfl, .list (ks'.map PyData.int), dRows R, .lst (SqL.of gr7) (dp_ints _), .lst (SqL.of gD7) (dp_rows rb7), shaped_ints _, shaped_rows _, rfl, _, rfl, iteNS ?_ ?_⟩
      · rw [any_rows]
        refine congrArg V.bl (decide_eq_decide.mpr ⟨fun z => q2.mp ?_, fun z => congrArg V.int ?_⟩)
        · have : rch ks' v + 1 - 1 = up n v := by injection z
          omega
        · have := q2.mpr z
          omega
      refine ⟨_, rfl, _, rfl, rch ks' v + 1 - 1, up n v, rfl, rfl, _, rfl, ite2 (fun c => ?_) (fun _ => ?_)⟩
      · have : up n v < rch ks' v + 1 - 1 := of_decide_eq_true c
        omega
      -- reach(rows[..], goal)
      refine ⟨_, rfl, _, rfl, _, rfl, l, d, mix, cnt4, (M : Int), rfl, S7, by omega, by omega, by omega, fun z cnt5 H8' z0 z1 S8 hc5 k8 => ?_⟩
      obtain ⟨j2, rfl⟩ : ∃ j : Nat, z = (j : Int) := ⟨z.toNat, by omega⟩
      have k78 := k7.trans k8
      obtain ⟨a2, ha2, ga2⟩ := ra9.get (hRat j2 (by omega))
      have has2 : a2 ∈ as := List.mem_of_getElem? ha2
      have ga8 := k78 _ _ ga2 (fun z => nlas (z ▸ has2)) (fun z => ndas (z ▸ has2))
      obtain ⟨pl2, pg2, pr2⟩ := pick_ok (n := n) hv (j2 : Int)
      have pg3 : ∀ x ∈ pick (chs n v) (j2 : Int), 2 ≤ x ∧ x.natAbs < 2 ^ c := fun x hx => ⟨(pg2 x hx).1, cb x (by have := pg2 x hx; omega) (by have := pg2 x hx; omega)⟩
      refine ⟨p, _, _, .ref a2, rfl, rfl, SqL.of (k78 _ _ sp9 npl npd), at_of rfl (by rw [List.getElem?_map, ha2]; rfl), _, rfl, a2, pick (chs n v) (j2 : Int), v, rfl, SqL.of ga8, fun x hx => (pg3 x hx).1, rchok_of pg3 hv vc (by rw [pl2]; exact cc), hv, fun H9' s9 => ⟨_, rfl, rfl, _, rfl, iteNS (congrArg V.int pr2) ?_⟩⟩
      have k9 := k78.trans (Keep.of (l := l) (d := d) s9)
      have S9' := S8.same s9
      have gr9 := s9 _ _ (k8 _ _ gr7 nrl nrd)
      -- max(row) <= 10 ** 6 and reach(row, goal) != told
      refine ⟨_, rfl, r, ks', rfl, SqL.of gr9, by omega, fun mx _ _ => ⟨10, 6, rfl, rfl, ⟨by decide, by decide, by decide⟩, _, _, rfl, rfl, _, rfl, ite2 (fun _ => ?_) (fun _ => ?_)⟩⟩
      · refine ⟨_, rfl, _, rfl, r, ks', v, rfl, SqL.of gr9, fun x hx => (k6ge x hx).1, ok6, hv, fun Hz sz => ⟨_, rfl, rfl, _, rfl, iteNS (congrArg V.int (Int.add_sub_cancel ..).symm) ?_⟩⟩
        exact ⟨cnt5, _, _, _, _, _, rfl, S9'.same sz, by omega, k9.trans (Keep.of sz)⟩
      · exact ⟨cnt5, _, _, _, _, _, rfl, S9', by omega, k9⟩
    · rintro σ Ha ⟨cnt1, y8, y11, y12, y13, y14, rfl, S1, hc1, k1⟩
      refine hQ cnt1 Ha S1 ?_ ((Keep.of s09).trans k1)
      have : (6 * (if decide ((0 : Int) < n) = true then (1 : Int) else 0)).toNat ≤ 6 := by split <;> decide
      omega
end
end Sq

set_option Elab.async false
set_option linter.all false
set_option maxRecDepth 100000
set_option maxHeartbeats 4000000
namespace Sq
open PySem PySem.Spec PyProof.Rows L2
theorem ups_succ (n : Nat) (v : Int) : ups (n + 1) v = ups n v ++ [up n v] := by
  unfold ups
  rw [List.range_succ, List.map_append]
  rfl
theorem ups_succ2 (n : Nat) (v : Int) : ups (n + 2) v = ups n v ++ [up n v, up (n + 1) v] := by
  rw [ups_succ, ups_succ, List.append_assoc]
  rfl
def evs (n : Nat) (v : Int) : List Int := (ups n v).filter fun x => decide (x % 2 = 0)
theorem evs_len : ∀ (n : Nat) (v : Int), (evs n v).length = evens n v
  | 0, _ => rfl
  | n + 1, v => by
    show (evs (n + 1) v).length = evens n v + if up n v % 2 = 0 then 1 else 0
    have e : evs (n + 1) v = evs n v ++ [up n v].filter fun x => decide (x % 2 = 0) := by
      unfold evs
      rw [ups_succ, List.filter_append]
    rw [e, List.length_append, evs_len n v]
    by_cases h : up n v % 2 = 0
    · simp [h]
    · simp [h]
theorem evs_succ (n : Nat) (v : Int) : evs (n + 1) v = if up n v % 2 = 0 then evs n v ++ [up n v] else evs n v := by
  unfold evs
  rw [ups_succ, List.filter_append]
  by_cases h : up n v % 2 = 0
  · simp [h]
  · simp [h]
theorem at3n {a b c z : Int} (h0 : 0 ≤ z) (h : z < 3) : ∃ k, atI [V.int a, V.int b, V.int c] z = some (.int k) ∧ (k = a ∨ k = b ∨ k = c) := by
  have : z = 0 ∨ z = 1 ∨ z = 2 := by omega
  rcases this with e | e | e
  · subst e
    exact ⟨a, rfl, .inl rfl⟩
  · subst e
    exact ⟨b, rfl, .inr (.inl rfl)⟩
  · subst e
    exact ⟨c, rfl, .inr (.inr rfl)⟩
section
variable {P : Program} {w : World} {K : PySem.W.Frag} {mg : Str → Option Value} {base : Heap}
def spLaw (K : PySem.W.Frag) : Sp := fun vs H Q _ => ∃ (a : Addr) (ns : List Int), vs = [.ref a] ∧ SqL K H a (ns.map V.int) ∧ ns.length ≤ 63 ∧ ∀ H', Q (.bl true) H'
theorem ok_law {f : Addr} {fd : FuncData} (F : Fun K "law" "law" s_law f fd) (B : Bi mg)
    (D_lawsource : Df P w K mg base 1 "_law_source" ["script"] (spSource K)) (D_lawdraw : Df P w K mg base 1 "_law_draw" ["source", "many"] spDraw) (D_lawmostof : Df P w K mg base 2 "_law_most_of" ["reached"] spMost)
    (D_lawsame : Df P w K mg base 2 "_law_same" ["found", "wanted"] (spSame K 1)) (D_bestreach : Df P w K mg base 3 "best_reach" ["steps", "most"] spBestReach) (V_bestreach : Dv P w K mg base 3 "best_reach" ["steps", "most"] [.int 1] spBestReach)
    (D_lawlistsright : Df P w K mg base 9 "_law_lists_right" ["source", "many", "goal", "due", "even"] spListsR) (D_lawstepsright : Df P w K mg base 4 "_law_steps_right" ["source", "goal", "bests"] spStepsR) : Top P w K mg base 9 f fd "script" (spLaw K) := by
  refine atTop F sc_law ⟨rfl, by decide, by decide⟩ (fun vs H Q E h => ?_) (fun cdv outer s H vs Q E hr h => ?_)
  · obtain ⟨a, ns, rfl, _⟩ := h
    rfl
  · obtain ⟨a, ns, rfl, hS, hn, q⟩ := h
    refine ⟨_, (pss_cons (ps_set (i := 1) sc_law.nd rfl (Or.inl rfl) (pe_callD D_lawsource (hr.mono (by omega)) (by rfl) (pa_cons (pv 0) pa_nil)))
 (pss_cons (ps_for PassesOwn.never rfl (pi_range1 (by rfl) B.n_range (pa_cons (pe_op op_add pe_int (pe_callB (id := "min") (call_min2 rfl) (by rfl) B.n_min (by decide +kernel) (pa_cons pe_int (pa_cons (pe_callB (id := "len") (r := rLenK K) call_lenK (by rfl) B.n_len (by decide +kernel) (pa_cons (pv 0) pa_nil)) pa_nil)))) pa_nil)) (pg_name (i := 2) sc_law.nd rfl (Or.inl rfl))
 (pss_cons (ps_set (i := 3) sc_law.nd rfl (Or.inl rfl) (pe_op op_add pe_int (pe_callD D_lawdraw (hr.mono (by omega)) (by rfl) (pa_cons (pv 1) (pa_cons (pe_ix (r := rIxL K) ix_list (pe_lst (pa_cons pe_int (pa_cons pe_int (pa_cons (pe_op op_sub (pe_op op_pow pe_int pe_int) pe_int) pa_nil)))) (pe_callD D_lawdraw (hr.mono (by omega)) (by rfl) (pa_cons (pv 1) (pa_cons pe_int pa_nil))) (fun _ _ => rfl)) pa_nil)))))
 (pss_cons (ps_par (i := 4) (j := 5) (by rfl) sc_law.nd rfl rfl (by decide) rfl rfl (pa_cons (pe_callD D_lawdraw (hr.mono (by omega)) (by rfl) (pa_cons (pv 1) (pa_cons pe_int pa_nil))) (pa_cons (pe_lst (pa_cons (pv 3) pa_nil)) pa_nil)) (by rfl))
 (pss_cons (ps_for PassesOwn.never rfl (pi_range1 (by rfl) B.n_range (pa_cons (pe_ifExp (pt_cmpR op_lt (pv 3) pe_int (nomark _)) pe_int pe_int) pa_nil)) (pg_name (i := 6) sc_law.nd rfl (Or.inl rfl))
 (pss_cons (ps_expr (pe_bm PySem.F.plainAttrs_list PySem.F.slot_list_append PySem.F.type_list_append mt_append (pv 5) (pa_cons (pe_callD D_lawmostof (hr.mono (by omega)) (by rfl) (pa_cons (pe_ix (r := rIxL K) ix_list (pv 5) (pe_un un_neg pe_int) (fun _ _ => rfl)) pa_nil)) pa_nil)))
 (pss_one (ps_if (PW.pt (pw_or (pt_not (pt_val (pe_callD D_lawsame (hr.mono (by omega)) (by rfl) (pa_cons (pe_callD D_bestreach (hr.mono (by omega)) (by rfl) (pa_cons (pe_op op_add (pv 6) pe_int) (pa_cons (pv 3) pa_nil))) (pa_cons (pe_ix (r := rIxL K) ix_list (pv 5) (pe_un un_neg pe_int) (fun _ _ => rfl)) pa_nil))))) (pw_or1 (pt_cmpR op_le (pe_ix (r := rIxL K) ix_list (pv 5) (pe_un un_neg pe_int) (fun _ _ => rfl)) (pe_ix (r := rIxL K) ix_list (pv 5) (pe_un un_neg pe_int) (fun _ _ => rfl)) (nomark _)))))
 (pss_one (ps_ret pe_bl))
 pss_nil))))
 (pss_cons (ps_set (i := 7) sc_law.nd rfl (Or.inl rfl) (pe_callB (id := "len") (r := rLenK K) call_lenK (by rfl) B.n_len (by decide +kernel) (pa_cons (pe_lc (own := [("one", 8)]) (g := gName 8) rfl sc_law.nd (pi_list (pe_slice sl_list (pv 5) po_none (po_some (pv 4)))) (blkOk_by (own := [("one", 8)]) (N := ["script", "source", "k", "goal", "many", "bests", "step", "even", "one", "steps_here"]) (sc := defScope s_law) (by decide +kernel)) (fun _ _ _ _ _ => pg_name (i := 8) sc_law.nd rfl (Or.inl rfl)) (fun _ _ _ _ _ => pts_one (pt_cmpR op_eq (pe_op op_mod (pv 8) pe_int) pe_int (nomark _))) (fun _ _ _ _ _ => (pv 8))) pa_nil)))
 (pss_one (ps_if (PW.pt (pw_or (pt_not (pt_val (pe_callD D_lawlistsright (hr.mono (by omega)) (by rfl) (pa_cons (pv 1) (pa_cons (pv 4) (pa_cons (pv 3) (pa_cons (pe_ix (r := rIxL K) ix_list (pv 5) (pv 4) (fun _ _ => rfl)) (pa_cons (pv 7) pa_nil)))))))) (pw_or1 (pt_not (pt_val (pe_callD D_lawstepsright (hr.mono (by omega)) (by rfl) (pa_cons (pv 1) (pa_cons (pv 3) (pa_cons (pv 5) pa_nil)))))))))
 (pss_one (ps_ret pe_bl))
 pss_nil)))))))
 (pss_one (ps_ret (pe_cmpR (op_eqD hr.units) (pe_lc (own := [("steps_here", 9)]) (g := gName 9) rfl sc_law.nd (pi_range1 (by rfl) B.n_range (pa_cons pe_int pa_nil)) (blkOk_by (own := [("steps_here", 9)]) (N := ["script", "source", "k", "goal", "many", "bests", "step", "even", "one", "steps_here"]) (sc := defScope s_law) (by decide +kernel)) (fun _ _ _ _ _ => pg_name (i := 9) sc_law.nd rfl (Or.inl rfl)) (fun _ _ _ _ _ => pts_nil) (fun _ _ _ _ _ => (pe_callV V_bestreach (hr.mono (by omega)) (by rfl) (pa_cons (pv 9) pa_nil)))) (pe_lst (pa_cons pe_int (pa_cons pe_int (pa_cons pe_int (pa_cons pe_int (pa_cons pe_int (pa_cons pe_int (pa_cons pe_int pa_nil)))))))) (nomark _)))))), ?_⟩
    refine ⟨_, rfl, a, ns, rfl, hS, hn, fun l d mix H1 hl hd s1 S1 => ?_⟩
    refine ⟨_, rfl, a, _, rfl, .inl (s1.seq hS), 8, _, rfl, 3, _, rfl, rfl, ?_⟩
    rw [List.length_map]
    have hN : 3 + (if (ns.length : Int) < 8 then (ns.length : Int) else 8) ≤ 11 ∧ 0 ≤ 3 + (if (ns.length : Int) < 8 then (ns.length : Int) else 8) := by
      split <;> omega
    obtain ⟨N, eN⟩ : ∃ N, N = 3 + (if (ns.length : Int) < 8 then (ns.length : Int) else 8) := ⟨_, rfl⟩
    rw [← eN] at hN
    refine ⟨N, by subst eN; rfl, by omega, by omega, for_range (lo := 0) (n := N.toNat) (fun i σ H' => ∃ cnt y2 y3 y4 y5 y6 y7 y8 y9, σ = [some (.ref a), some (.ref l), y2, y3, y4, y5, y6, y7, y8, y9] ∧ Src H' l d mix cnt ∧ cnt ≤ 100 * i)
      ⟨0, none, none, none, none, none, none, none, none, rfl, S1, by omega⟩ ?_ ?_⟩
    · rintro i σ H2 hi ⟨cnt, y2, y3, y4, y5, y6, y7, y8, y9, rfl, S2, hc2⟩
      -- goal
      refine ⟨_, rfl, 10, 30, rfl, rfl, ⟨by decide, by decide, by decide⟩, _, 1, rfl, rfl, Nat.le_of_lt (small1000 (show 3 ≤ 1000 by decide)), fun r hr0 => ?_⟩
      refine ⟨_, rfl, l, d, mix, cnt, 3, rfl, S2.same (same_new hr0), by omega, by decide, by decide, fun z cnt3 H3 z0 z1 S3 hc3 k3 => ?_⟩
      have e30 : (10 : Int) ^ (30 : Int).toNat = 1000000000000000000000000000000 := by decide
      obtain ⟨lim, elim, hlim⟩ := at3n (a := 4) (b := 60) (c := (10 : Int) ^ (30 : Int).toNat - 1) z0 z1
      have nrl := S2.nel hr0
      have nrd := S2.ned hr0
      have lb : 0 < lim ∧ lim < 1000000000000000000000000000000 := by
        rw [e30] at hlim
        omega
      refine ⟨r, _, z, .int lim, rfl, rfl, SqL.of (k3 _ _ upd_same nrl nrd), elim, l, d, mix, cnt3, lim, rfl, S3, by omega, by omega, by omega, fun z4 cnt4 H4 z40 z41 S4 hc4 k4 => ⟨1, z4, rfl, rfl, ?_⟩⟩
      obtain ⟨v, ev⟩ : ∃ v, v = 1 + z4 := ⟨_, rfl⟩
      show gName 3 (V.int (1 + z4)) _ _ _
      rw [← ev]
      have hv : 1 ≤ v := by omega
      have hv2 : v < 1000000000000000000000000000000 := by omega
      -- many, bests
      refine ⟨_, rfl, l, d, mix, cnt4, 9, rfl, S4, by omega, by decide, by decide, fun z5 cnt5 H5 z50 z51 S5 hc5 k5 => ?_⟩
      obtain ⟨n, rfl⟩ : ∃ n : Nat, z5 = (n : Int) := ⟨z5.toNat, by omega⟩
      refine ⟨_, rfl, Nat.le_of_lt (small1000 (show 1 ≤ 1000 by decide)), fun p hp => ⟨_, _, rfl, ?_⟩⟩
      have npl := S5.nel hp
      have npd := S5.ned hp
      have S6 := S5.same (same_new (o := .lst [.int v]) hp)
      have gp : (upd H5 p (.lst [.int v])) p = some (.lst ((ups 1 v).map V.int)) := upd_same
      generalize (upd H5 p (.lst [.int v])) = H6 at S6 gp ⊢
      -- the bests
      obtain ⟨T, b, hT1, hT2, hb, hb2, hb3, eT⟩ : ∃ T b : Nat, 9 ≤ T ∧ T ≤ 12 ∧ v.natAbs < 2 ^ b ∧ b * 2 ^ T ≤ 200000 ∧ b * 2 ^ 8 ≤ 26000 ∧ (if decide (v < 1000) = true then (12 : Int) else 9).toNat = T := by
        by_cases c : v < 1000
        · exact ⟨12, 10, by decide, by decide, by omega, by decide, by decide, by rw [decide_eq_true c]; rfl⟩
        · exact ⟨9, 100, by decide, by decide, by omega, by decide, by decide, by rw [decide_eq_false c]; rfl⟩
      refine seqNx (seq_for_if (decide (v < 1000)) (fun Q' hQ' => ⟨_, rfl, v, 1000, rfl, rfl, _, rfl, hQ'⟩) (by decide) (by decide) ?_)
      rw [eT]
      refine for_range (lo := 0) (n := T) (fun t σ H' => ∃ y6, σ = [some (.ref a), some (.ref l), some (.int (0 + (i : Int))), some (.int v), some (.int (n : Int)), some (.ref p), y6, y7, y8, y9] ∧ Src H' l d mix cnt5 ∧ H' p = some (.lst ((ups (t + 1) v).map V.int)))
        ⟨_, rfl, S6, gp⟩ ?_ ?_
      · rintro t σ H7 ht ⟨y6, rfl, S7, gp7⟩
        have lt1 : atI ((ups (t + 1) v).map V.int) (-1) = some (.int (up t v)) := by
          rw [ups_succ, List.map_append]
          exact atI_last _ _
        refine ⟨_, rfl, .inl ⟨rfl, _, SqL.of gp7⟩, _, rfl, 1, rfl, p, _, -1, .int (up t v), rfl, rfl, SqL.of gp7, lt1, up t v, b * 2 ^ t, rfl, up_pos hv t, up_bits hv hb t, pow_le_le (by omega) hb2, fun H8 s8 => ?_⟩
        refine ⟨p, _, _, rfl, rfl, s8 _ _ gp7, (by rw [List.length_map, ups_len]; exact small1000 (by omega)), ?_⟩
        have gp8 : (upd H8 p (.lst ((ups (t + 1) v).map V.int ++ [.int (grow (up t v))]))) p = some (.lst ((ups (t + 2) v).map V.int)) := by
          rw [upd_same, ups_succ (t + 1), List.map_append]
          rfl
        have S8 : Src (upd H8 p (.lst ((ups (t + 1) v).map V.int ++ [.int (grow (up t v))]))) l d mix cnt5 := by
          obtain ⟨cur, ds, h1, h2⟩ := (S7.same s8).ob
          exact ⟨⟨cur, ds, by rw [upd_ne npl.symm]; exact h1, by rw [upd_ne npd.symm]; exact h2⟩, S7.m0, S7.m1, S7.c0, S7.ne⟩
        generalize (upd H8 p (.lst ((ups (t + 1) v).map V.int ++ [.int (grow (up t v))]))) = H9 at gp8 S8 ⊢
        have l1 : atI ((ups (t + 2) v).map V.int) (-1) = some (.int (up (t + 1) v)) := by
          rw [ups_succ, List.map_append]
          exact atI_last _ _
        have l2 : atI ((ups (t + 2) v).map V.int) (-2) = some (.int (up t v)) := by
          rw [ups_succ2, List.map_append]
          exact atI_last2 _ _ _
        have e0 : PyData.eqv (.int (up (t + 1) v)) (.int (up (t + 1) v)) = true := eqv_refl' rfl
        refine ⟨_, rfl, _, 1, rfl, rfl, _, rfl, t + 1, v, b, congrArg (fun x => [V.int x, V.int v]) (by omega), hv, hb, pow_le_le (by omega) hb2, by omega, fun Ha sa => ?_⟩
        refine ⟨_, rfl, 1, rfl, p, _, -1, .int (up (t + 1) v), rfl, rfl, SqL.of (sa _ _ gp8), l1, .int _, .int _, _, _, rfl, .int _, .int _, rfl, rfl, (by show 0 < 1; decide), fun Hb sb => ⟨true, congrArg V.bl e0, iteF ?_⟩⟩
        have gpb := sb _ _ (sa _ _ gp8)
        refine ⟨_, rfl, 1, rfl, p, _, -1, .int (up (t + 1) v), rfl, rfl, SqL.of gpb, l1, _, rfl, 2, rfl, p, _, -2, .int (up t v), rfl, rfl, SqL.of gpb, l2, _, _, rfl, rfl, _, rfl, ite2 (fun c => ?_) (fun _ => ?_)⟩
        · have c' : up (t + 1) v ≤ up t v := of_decide_eq_true c
          have := up_lt hv t
          omega
        · exact ⟨_, rfl, S8.same (sa.trans sb), gpb⟩
      · rintro σ H7 ⟨y6, rfl, S7, gp7⟩
        have tk : (ups (T + 1) v).take n = ups n v := by
          unfold ups
          rw [← List.map_take, List.take_range, Nat.min_eq_left (by omega)]
        have ecut : cutV ((ups (T + 1) v).map V.int) none (some (n : Int)) = (ups n v).map V.int := by
          rw [cut_take _ _ (by rw [List.length_map, ups_len]; omega), ← List.map_take, tk]
        refine ⟨_, rfl, _, rfl, (n : Int), rfl, p, _, rfl, SqL.of gp7, fun c hc => ?_⟩
        rw [ecut]
        have sm8 := same_new (o := .lst ((ups n v).map V.int)) hc
        have gc8 : (upd H7 c (.lst ((ups n v).map V.int))) c = some (.lst ((ups n v).map V.int)) := upd_same
        generalize (upd H7 c (.lst ((ups n v).map V.int))) = H8 at sm8 gc8 ⊢
        refine ⟨c, rfl, ⟨_, SqL.of gc8⟩, fun D hD => lc_list (K := K) (a := c) (xs := (ups n v).map V.int) (fun i H' => Same H8 H' ∧ H' D = some (.lst ((evs i v).map V.int)))
          ⟨same_new hD, upd_same⟩ (fun i H' _ h => SqL.of (h.1 _ _ gc8)) ?_ ?_⟩
        · rintro j x H9 hx ⟨sm, hDD⟩
          have hj : j < n := by
            have := (List.getElem?_eq_some_iff.mp hx).1
            rw [List.length_map, ups_len] at this
            exact this
          rw [ups_at v hj] at hx
          cases hx
          refine ⟨rfl, _, rfl, up j v, 2, rfl, rfl, (show (0 : Int) < 2 by decide), rfl, _, rfl, ?_⟩
          by_cases e : up j v % 2 = 0
          · rw [decide_eq_true (congrArg V.int e)]
            refine iteT ⟨_, rfl, _, hDD, (by rw [List.length_map, evs_len]; exact small1000 (by have := evens_le j v; omega)), fun b o eb => ?_, ?_⟩
            · rw [upd_ne (ne_of_none eb hD)]
              exact sm _ _ eb
            · rw [upd_same, evs_succ, if_pos e, List.map_append]
              rfl
          · rw [decide_eq_false (fun z => e (by injection z))]
            refine iteF ⟨sm, ?_⟩
            rw [evs_succ, if_neg e]
            exact hDD
        rintro H9 ⟨sm9, hD9⟩
        rw [List.length_map, ups_len] at hD9
        refine ⟨D, _, rfl, .inl (SqL.of hD9), ?_⟩
        show gName 7 (V.int (((evs n v).map V.int).length : Nat)) _ _ _
        rw [List.length_map, evs_len]
        have s79 := sm8.trans sm9
        have gp9 := s79 _ _ gp7
        have S9 := S7.same s79
        refine ⟨_, rfl, _, rfl, _, rfl, _, rfl, _, rfl, p, _, (n : Int), .int (up n v), rfl, rfl, SqL.of gp9, at_of rfl (ups_at v (by omega)), _, rfl, l, d, mix, cnt5, v, n, b, rfl, S9, by omega, hv, hb, pow_le_le (show n ≤ 8 by omega) hb3, by omega, fun cnt6 Ha Sa hc6 ka => ⟨true, rfl, iteF ?_⟩⟩
        have gpa := ka _ _ gp9 npl npd
        refine ⟨_, rfl, _, rfl, _, rfl, l, d, p, mix, cnt6, v, T, b, rfl, Sa, by omega, hv, hb, hb2, by omega, hT2, npl, npd, gpa, fun cnt7 Hb Sb hc7 kb => ⟨true, rfl, iteF ?_⟩⟩
        exact ⟨cnt7, _, _, _, _, _, _, _, _, rfl, Sb, by omega⟩
    · rintro σ H2 ⟨cnt, y2, y3, y4, y5, y6, y7, y8, y9, rfl, S2, hc2⟩
      refine ⟨7, rfl, by decide, by decide, fun D hD => lc_range (lo := 0) (n := 7) (fun i H' => H' D = some (.lst ((ups i 1).map V.int))) upd_same ?_ ?_⟩
      · rintro i H3 hi hDD
        refine ⟨rfl, _, rfl, i, 1, 1, congrArg (fun x => [V.int x, V.int 1]) (by omega), by decide, by decide, Nat.le_trans (Nat.mul_le_mul_left 1 (Nat.pow_le_pow_right (by decide) (show i ≤ 7 by omega))) (by decide), by omega, fun H4 s4 => ⟨_, s4 _ _ hDD, (by rw [List.length_map, ups_len]; exact small1000 (by omega)), ?_⟩⟩
        rw [upd_same, ups_succ, List.map_append]
        rfl
      · rintro H3 hDD
        refine ⟨Nat.le_of_lt (small1000 (show 7 ≤ 1000 by decide)), fun t ht => ⟨.list ((ups 7 1).map PyData.int), .list ([1, 2, 4, 10, 40, 460, 53590].map PyData.int), .lst (SqL.of (same_new ht _ _ hDD)) (dp_ints _), .lst (SqL.of upd_same) (dp_ints [1, 2, 4, 10, 40, 460, 53590]), shaped_ints _, shaped_ints _, ?_⟩⟩
        have e : ups 7 1 = [1, 2, 4, 10, 40, 460, 53590] := by decide
        rw [e, SeqAt.eqv_refl (.list ([1, 2, 4, 10, 40, 460, 53590].map PyData.int)) (lays_ints _)]
        exact q _
end
end Sq

set_option Elab.async false
set_option linter.all false
set_option maxRecDepth 100000
set_option maxHeartbeats 2000000
namespace Sq
open PySem PySem.Spec PyProof.Rows L2
section
variable {P : Program} {w : World} {K : PySem.W.Frag} {mg : Str → Option Value} {base : Heap}
theorem reach_d {f : Addr} {fd : FuncData} (F : FReach K f fd) (G : FnOk P w K mg base CX0 2 f fd ["replacements", "most"] (spReach K)) (g : mg "reach" = some (.ref f)) : Df P w K mg base 2 "reach" ["replacements", "most"] (spReach K) := by
  obtain ⟨ds, hd, hb⟩ := F.binds1 (ps := ["replacements", "most"]) 2 1 (by simp) rfl (fun T kV doc pm an cdv ct us its h1 h2 => match us, its, h1, h2 with | [_, _], [_], _, _ => ⟨_, rfl, rfl⟩)
  have e := vals_nil hd
  subst e
  exact ⟨⟨f, fd, G, g, F.kp, hb⟩⟩
theorem bestreach_d {f : Addr} {fd : FuncData} (F : FBestReach K f fd) (G : FnOk P w K mg base CX0 3 f fd ["steps", "most"] spBestReach) (g : mg "best_reach" = some (.ref f)) :
    Df P w K mg base 3 "best_reach" ["steps", "most"] spBestReach ∧ Dv P w K mg base 3 "best_reach" ["steps", "most"] [.int 1] spBestReach := by
  refine ⟨?_, ?_⟩
  · obtain ⟨ds, hd, hb⟩ := F.binds1 (ps := ["steps", "most"]) 2 1 (by simp) rfl (fun T kV doc pm an cdv ct us its h1 h2 => match us, its, h1, h2 with | [_, _], [_], _, _ => ⟨_, rfl, rfl⟩)
    have e := vals_nil hd
    subst e
    exact ⟨⟨f, fd, G, g, F.kp, hb⟩⟩
  · obtain ⟨ds, hd, hb⟩ := F.binds1 (ps := ["steps", "most"]) 1 0 (by simp) rfl (fun T kV doc pm an cdv ct us its h1 h2 => match us, its, h1, h2 with | [_], [_], _, _ => ⟨_, rfl, rfl⟩)
    exact ⟨⟨f, fd, ds, G, g, F.kp, hd, hb⟩⟩
theorem fewest_d {f : Addr} {fd : FuncData} (F : FFewest K f fd) (G : FnOk P w K mg base CX0 3 f fd ["length", "most"] spFewest) (g : mg "fewest_steps" = some (.ref f)) : Df P w K mg base 3 "fewest_steps" ["length", "most"] spFewest := by
  obtain ⟨ds, hd, hb⟩ := F.binds1 (ps := ["length", "most"]) 2 1 (by simp) rfl (fun T kV doc pm an cdv ct us its h1 h2 => match us, its, h1, h2 with | [_, _], [_], _, _ => ⟨_, rfl, rfl⟩)
  have e := vals_nil hd
  subst e
  exact ⟨⟨f, fd, G, g, F.kp, hb⟩⟩
theorem bestlists_g {f : Addr} {fd : FuncData} (F : FBestLists K f fd) (G : GFn P w K mg base 5 f fd ["steps", "most"] spBestLists) (g : mg "best_lists" = some (.ref f)) : Dg P w K mg base 5 "best_lists" ["steps", "most"] spBestLists := by
  obtain ⟨ds, hd, hb⟩ := F.binds1 (ps := ["steps", "most"]) 2 1 (by simp) rfl (fun T kV doc pm an cdv ct us its h1 h2 => match us, its, h1, h2 with | [_, _], [_], _, _ => ⟨_, rfl, rfl⟩)
  have e := vals_nil hd
  subst e
  exact ⟨⟨f, fd, G, g, F.kp, hb⟩⟩
end
end Sq

set_option Elab.async false
set_option linter.all false
set_option maxRecDepth 100000
set_option maxHeartbeats 2000000
namespace Sq
open PySem PySem.Spec PyProof.Rows L2
theorem all_mk {l : PySem.W.OpenLaw} {w : World} {K : PySem.W.Frag} {h : Heap} {mg : Str → Option Value} {fa : Addr} (X : K.In h) (G : h.Ns mainGlobals mg) (hfa : mg "law" = some (.ref fa))
    {f_checklist : Addr} {od_checklist an_checklist : Option Addr} {sl_checklist : Array (Option Value)} {oc_checklist kV_checklist dc_checklist pm_checklist cd_checklist ct_checklist : Value}
    (a_checklist : PySem.W.nsIn K mainGlobals "check_list" = some (some (.ref f_checklist)))
    (l_checklist : K.lookup f_checklist = some ⟨oc_checklist, od_checklist, .func (PySem.W.fnOf "check_list" "check_list" (defArgs s_checklist) (defBody s_checklist) (defScope s_checklist) .none kV_checklist dc_checklist pm_checklist an_checklist cd_checklist ct_checklist), sl_checklist⟩)
    (c_checklist : PySem.W.codeIn K cd_checklist "check_list" = true) (k_checklist : PySem.W.keepIn K (.ref f_checklist) = true)
    {f_checknumber : Addr} {od_checknumber an_checknumber : Option Addr} {sl_checknumber : Array (Option Value)} {oc_checknumber kV_checknumber dc_checknumber pm_checknumber cd_checknumber ct_checknumber : Value}
    (a_checknumber : PySem.W.nsIn K mainGlobals "check_number" = some (some (.ref f_checknumber)))
    (l_checknumber : K.lookup f_checknumber = some ⟨oc_checknumber, od_checknumber, .func (PySem.W.fnOf "check_number" "check_number" (defArgs s_checknumber) (defBody s_checknumber) (defScope s_checknumber) .none kV_checknumber dc_checknumber pm_checknumber an_checknumber cd_checknumber ct_checknumber), sl_checknumber⟩)
    (c_checknumber : PySem.W.codeIn K cd_checknumber "check_number" = true) (k_checknumber : PySem.W.keepIn K (.ref f_checknumber) = true)
    {f_reach : Addr} {od_reach an_reach : Option Addr} {sl_reach : Array (Option Value)} {oc_reach kV_reach dc_reach pm_reach cd_reach ct_reach : Value}
    (a_reach : PySem.W.nsIn K mainGlobals "reach" = some (some (.ref f_reach)))
    {T_reach : Addr} {oT_reach : Value} {dT_reach : Option Addr} {nT_reach : Nat} {sT_reach : Array (Option Value)} {t_reach0 : Tok}
    (l_reach : K.lookup f_reach = some ⟨oc_reach, od_reach, .func (PySem.W.fnOf "reach" "reach" (defArgs s_reach) (defBody s_reach) (defScope s_reach) (.ref T_reach) kV_reach dc_reach pm_reach an_reach cd_reach ct_reach), sl_reach⟩)
    (c_reach : PySem.W.codeIn K cd_reach "reach" = true) (k_reach : PySem.W.keepIn K (.ref f_reach) = true)
    (lT_reach : K.lookup T_reach = some ⟨oT_reach, dT_reach, .seq #[.int 1 t_reach0] nT_reach, sT_reach⟩)
    {f_bestreach : Addr} {od_bestreach an_bestreach : Option Addr} {sl_bestreach : Array (Option Value)} {oc_bestreach kV_bestreach dc_bestreach pm_bestreach cd_bestreach ct_bestreach : Value}
    (a_bestreach : PySem.W.nsIn K mainGlobals "best_reach" = some (some (.ref f_bestreach)))
    {T_bestreach : Addr} {oT_bestreach : Value} {dT_bestreach : Option Addr} {nT_bestreach : Nat} {sT_bestreach : Array (Option Value)} {t_bestreach0 : Tok}
    (l_bestreach : K.lookup f_bestreach = some ⟨oc_bestreach, od_bestreach, .func (PySem.W.fnOf "best_reach" "best_reach" (defArgs s_bestreach) (defBody s_bestreach) (defScope s_bestreach) (.ref T_bestreach) kV_bestreach dc_bestreach pm_bestreach an_bestreach cd_bestreach ct_bestreach), sl_bestreach⟩)
    (c_bestreach : PySem.W.codeIn K cd_bestreach "best_reach" = true) (k_bestreach : PySem.W.keepIn K (.ref f_bestreach) = true)
    (lT_bestreach : K.lookup T_bestreach = some ⟨oT_bestreach, dT_bestreach, .seq #[.int 1 t_bestreach0] nT_bestreach, sT_bestreach⟩)
    {f_feweststeps : Addr} {od_feweststeps an_feweststeps : Option Addr} {sl_feweststeps : Array (Option Value)} {oc_feweststeps kV_feweststeps dc_feweststeps pm_feweststeps cd_feweststeps ct_feweststeps : Value}
    (a_feweststeps : PySem.W.nsIn K mainGlobals "fewest_steps" = some (some (.ref f_feweststeps)))
    {T_feweststeps : Addr} {oT_feweststeps : Value} {dT_feweststeps : Option Addr} {nT_feweststeps : Nat} {sT_feweststeps : Array (Option Value)} {t_feweststeps0 : Tok}
    (l_feweststeps : K.lookup f_feweststeps = some ⟨oc_feweststeps, od_feweststeps, .func (PySem.W.fnOf "fewest_steps" "fewest_steps" (defArgs s_feweststeps) (defBody s_feweststeps) (defScope s_feweststeps) (.ref T_feweststeps) kV_feweststeps dc_feweststeps pm_feweststeps an_feweststeps cd_feweststeps ct_feweststeps), sl_feweststeps⟩)
    (c_feweststeps : PySem.W.codeIn K cd_feweststeps "fewest_steps" = true) (k_feweststeps : PySem.W.keepIn K (.ref f_feweststeps) = true)
    (lT_feweststeps : K.lookup T_feweststeps = some ⟨oT_feweststeps, dT_feweststeps, .seq #[.int 1 t_feweststeps0] nT_feweststeps, sT_feweststeps⟩)
    {f_bestlists : Addr} {od_bestlists an_bestlists : Option Addr} {sl_bestlists : Array (Option Value)} {oc_bestlists kV_bestlists dc_bestlists pm_bestlists cd_bestlists ct_bestlists : Value}
    (a_bestlists : PySem.W.nsIn K mainGlobals "best_lists" = some (some (.ref f_bestlists)))
    {T_bestlists : Addr} {oT_bestlists : Value} {dT_bestlists : Option Addr} {nT_bestlists : Nat} {sT_bestlists : Array (Option Value)} {t_bestlists0 : Tok}
    (l_bestlists : K.lookup f_bestlists = some ⟨oc_bestlists, od_bestlists, .func (PySem.W.fnOf "best_lists" "best_lists" (defArgs s_bestlists) (defBody s_bestlists) (defScope s_bestlists) (.ref T_bestlists) kV_bestlists dc_bestlists pm_bestlists an_bestlists cd_bestlists ct_bestlists), sl_bestlists⟩)
    (c_bestlists : PySem.W.codeIn K cd_bestlists "best_lists" = true) (k_bestlists : PySem.W.keepIn K (.ref f_bestlists) = true)
    (lT_bestlists : K.lookup T_bestlists = some ⟨oT_bestlists, dT_bestlists, .seq #[.int 1 t_bestlists0] nT_bestlists, sT_bestlists⟩)
    {f_reachwith : Addr} {od_reachwith an_reachwith : Option Addr} {sl_reachwith : Array (Option Value)} {oc_reachwith kV_reachwith dc_reachwith pm_reachwith cd_reachwith ct_reachwith : Value}
    (a_reachwith : PySem.W.nsIn K mainGlobals "reach_with" = some (some (.ref f_reachwith)))
    (l_reachwith : K.lookup f_reachwith = some ⟨oc_reachwith, od_reachwith, .func (PySem.W.fnOf "reach_with" "reach_with" (defArgs s_reachwith) (defBody s_reachwith) (defScope s_reachwith) .none kV_reachwith dc_reachwith pm_reachwith an_reachwith cd_reachwith ct_reachwith), sl_reachwith⟩)
    (c_reachwith : PySem.W.codeIn K cd_reachwith "reach_with" = true) (k_reachwith : PySem.W.keepIn K (.ref f_reachwith) = true)
    {f_bestnumbers : Addr} {od_bestnumbers an_bestnumbers : Option Addr} {sl_bestnumbers : Array (Option Value)} {oc_bestnumbers kV_bestnumbers dc_bestnumbers pm_bestnumbers cd_bestnumbers ct_bestnumbers : Value}
    (a_bestnumbers : PySem.W.nsIn K mainGlobals "best_numbers" = some (some (.ref f_bestnumbers)))
    (l_bestnumbers : K.lookup f_bestnumbers = some ⟨oc_bestnumbers, od_bestnumbers, .func (PySem.W.fnOf "best_numbers" "best_numbers" (defArgs s_bestnumbers) (defBody s_bestnumbers) (defScope s_bestnumbers) .none kV_bestnumbers dc_bestnumbers pm_bestnumbers an_bestnumbers cd_bestnumbers ct_bestnumbers), sl_bestnumbers⟩)
    (c_bestnumbers : PySem.W.codeIn K cd_bestnumbers "best_numbers" = true) (k_bestnumbers : PySem.W.keepIn K (.ref f_bestnumbers) = true)
    {f_greatestreachwithone : Addr} {od_greatestreachwithone an_greatestreachwithone : Option Addr} {sl_greatestreachwithone : Array (Option Value)} {oc_greatestreachwithone kV_greatestreachwithone dc_greatestreachwithone pm_greatestreachwithone cd_greatestreachwithone ct_greatestreachwithone : Value}
    (a_greatestreachwithone : PySem.W.nsIn K mainGlobals "greatest_reach_with_one" = some (some (.ref f_greatestreachwithone)))
    (l_greatestreachwithone : K.lookup f_greatestreachwithone = some ⟨oc_greatestreachwithone, od_greatestreachwithone, .func (PySem.W.fnOf "greatest_reach_with_one" "greatest_reach_with_one" (defArgs s_greatestreachwithone) (defBody s_greatestreachwithone) (defScope s_greatestreachwithone) .none kV_greatestreachwithone dc_greatestreachwithone pm_greatestreachwithone an_greatestreachwithone cd_greatestreachwithone ct_greatestreachwithone), sl_greatestreachwithone⟩)
    (c_greatestreachwithone : PySem.W.codeIn K cd_greatestreachwithone "greatest_reach_with_one" = true) (k_greatestreachwithone : PySem.W.keepIn K (.ref f_greatestreachwithone) = true)
    {f_bestchoices : Addr} {od_bestchoices an_bestchoices : Option Addr} {sl_bestchoices : Array (Option Value)} {oc_bestchoices kV_bestchoices dc_bestchoices pm_bestchoices cd_bestchoices ct_bestchoices : Value}
    (a_bestchoices : PySem.W.nsIn K mainGlobals "best_choices" = some (some (.ref f_bestchoices)))
    (l_bestchoices : K.lookup f_bestchoices = some ⟨oc_bestchoices, od_bestchoices, .func (PySem.W.fnOf "best_choices" "best_choices" (defArgs s_bestchoices) (defBody s_bestchoices) (defScope s_bestchoices) .none kV_bestchoices dc_bestchoices pm_bestchoices an_bestchoices cd_bestchoices ct_bestchoices), sl_bestchoices⟩)
    (c_bestchoices : PySem.W.codeIn K cd_bestchoices "best_choices" = true) (k_bestchoices : PySem.W.keepIn K (.ref f_bestchoices) = true)
    {f_listat : Addr} {od_listat an_listat : Option Addr} {sl_listat : Array (Option Value)} {oc_listat kV_listat dc_listat pm_listat cd_listat ct_listat : Value}
    (a_listat : PySem.W.nsIn K mainGlobals "list_at" = some (some (.ref f_listat)))
    (l_listat : K.lookup f_listat = some ⟨oc_listat, od_listat, .func (PySem.W.fnOf "list_at" "list_at" (defArgs s_listat) (defBody s_listat) (defScope s_listat) .none kV_listat dc_listat pm_listat an_listat cd_listat ct_listat), sl_listat⟩)
    (c_listat : PySem.W.codeIn K cd_listat "list_at" = true) (k_listat : PySem.W.keepIn K (.ref f_listat) = true)
    {f_lawsource : Addr} {od_lawsource an_lawsource : Option Addr} {sl_lawsource : Array (Option Value)} {oc_lawsource kV_lawsource dc_lawsource pm_lawsource cd_lawsource ct_lawsource : Value}
    (a_lawsource : PySem.W.nsIn K mainGlobals "_law_source" = some (some (.ref f_lawsource)))
    (l_lawsource : K.lookup f_lawsource = some ⟨oc_lawsource, od_lawsource, .func (PySem.W.fnOf "_law_source" "_law_source" (defArgs s_lawsource) (defBody s_lawsource) (defScope s_lawsource) .none kV_lawsource dc_lawsource pm_lawsource an_lawsource cd_lawsource ct_lawsource), sl_lawsource⟩)
    (c_lawsource : PySem.W.codeIn K cd_lawsource "_law_source" = true) (k_lawsource : PySem.W.keepIn K (.ref f_lawsource) = true)
    {f_lawdraw : Addr} {od_lawdraw an_lawdraw : Option Addr} {sl_lawdraw : Array (Option Value)} {oc_lawdraw kV_lawdraw dc_lawdraw pm_lawdraw cd_lawdraw ct_lawdraw : Value}
    (a_lawdraw : PySem.W.nsIn K mainGlobals "_law_draw" = some (some (.ref f_lawdraw)))
    (l_lawdraw : K.lookup f_lawdraw = some ⟨oc_lawdraw, od_lawdraw, .func (PySem.W.fnOf "_law_draw" "_law_draw" (defArgs s_lawdraw) (defBody s_lawdraw) (defScope s_lawdraw) .none kV_lawdraw dc_lawdraw pm_lawdraw an_lawdraw cd_lawdraw ct_lawdraw), sl_lawdraw⟩)
    (c_lawdraw : PySem.W.codeIn K cd_lawdraw "_law_draw" = true) (k_lawdraw : PySem.W.keepIn K (.ref f_lawdraw) = true)
    {f_lawsame : Addr} {od_lawsame an_lawsame : Option Addr} {sl_lawsame : Array (Option Value)} {oc_lawsame kV_lawsame dc_lawsame pm_lawsame cd_lawsame ct_lawsame : Value}
    (a_lawsame : PySem.W.nsIn K mainGlobals "_law_same" = some (some (.ref f_lawsame)))
    (l_lawsame : K.lookup f_lawsame = some ⟨oc_lawsame, od_lawsame, .func (PySem.W.fnOf "_law_same" "_law_same" (defArgs s_lawsame) (defBody s_lawsame) (defScope s_lawsame) .none kV_lawsame dc_lawsame pm_lawsame an_lawsame cd_lawsame ct_lawsame), sl_lawsame⟩)
    (c_lawsame : PySem.W.codeIn K cd_lawsame "_law_same" = true) (k_lawsame : PySem.W.keepIn K (.ref f_lawsame) = true)
    {f_lawleastrun : Addr} {od_lawleastrun an_lawleastrun : Option Addr} {sl_lawleastrun : Array (Option Value)} {oc_lawleastrun kV_lawleastrun dc_lawleastrun pm_lawleastrun cd_lawleastrun ct_lawleastrun : Value}
    (a_lawleastrun : PySem.W.nsIn K mainGlobals "_law_least_run" = some (some (.ref f_lawleastrun)))
    (l_lawleastrun : K.lookup f_lawleastrun = some ⟨oc_lawleastrun, od_lawleastrun, .func (PySem.W.fnOf "_law_least_run" "_law_least_run" (defArgs s_lawleastrun) (defBody s_lawleastrun) (defScope s_lawleastrun) .none kV_lawleastrun dc_lawleastrun pm_lawleastrun an_lawleastrun cd_lawleastrun ct_lawleastrun), sl_lawleastrun⟩)
    (c_lawleastrun : PySem.W.codeIn K cd_lawleastrun "_law_least_run" = true) (k_lawleastrun : PySem.W.keepIn K (.ref f_lawleastrun) = true)
    {f_lawmostof : Addr} {od_lawmostof an_lawmostof : Option Addr} {sl_lawmostof : Array (Option Value)} {oc_lawmostof kV_lawmostof dc_lawmostof pm_lawmostof cd_lawmostof ct_lawmostof : Value}
    (a_lawmostof : PySem.W.nsIn K mainGlobals "_law_most_of" = some (some (.ref f_lawmostof)))
    (l_lawmostof : K.lookup f_lawmostof = some ⟨oc_lawmostof, od_lawmostof, .func (PySem.W.fnOf "_law_most_of" "_law_most_of" (defArgs s_lawmostof) (defBody s_lawmostof) (defScope s_lawmostof) .none kV_lawmostof dc_lawmostof pm_lawmostof an_lawmostof cd_lawmostof ct_lawmostof), sl_lawmostof⟩)
    (c_lawmostof : PySem.W.codeIn K cd_lawmostof "_law_most_of" = true) (k_lawmostof : PySem.W.keepIn K (.ref f_lawmostof) = true)
    {f_lawlistsright : Addr} {od_lawlistsright an_lawlistsright : Option Addr} {sl_lawlistsright : Array (Option Value)} {oc_lawlistsright kV_lawlistsright dc_lawlistsright pm_lawlistsright cd_lawlistsright ct_lawlistsright : Value}
    (a_lawlistsright : PySem.W.nsIn K mainGlobals "_law_lists_right" = some (some (.ref f_lawlistsright)))
    (l_lawlistsright : K.lookup f_lawlistsright = some ⟨oc_lawlistsright, od_lawlistsright, .func (PySem.W.fnOf "_law_lists_right" "_law_lists_right" (defArgs s_lawlistsright) (defBody s_lawlistsright) (defScope s_lawlistsright) .none kV_lawlistsright dc_lawlistsright pm_lawlistsright an_lawlistsright cd_lawlistsright ct_lawlistsright), sl_lawlistsright⟩)
    (c_lawlistsright : PySem.W.codeIn K cd_lawlistsright "_law_lists_right" = true) (k_lawlistsright : PySem.W.keepIn K (.ref f_lawlistsright) = true)
    {f_lawstepsright : Addr} {od_lawstepsright an_lawstepsright : Option Addr} {sl_lawstepsright : Array (Option Value)} {oc_lawstepsright kV_lawstepsright dc_lawstepsright pm_lawstepsright cd_lawstepsright ct_lawstepsright : Value}
    (a_lawstepsright : PySem.W.nsIn K mainGlobals "_law_steps_right" = some (some (.ref f_lawstepsright)))
    (l_lawstepsright : K.lookup f_lawstepsright = some ⟨oc_lawstepsright, od_lawstepsright, .func (PySem.W.fnOf "_law_steps_right" "_law_steps_right" (defArgs s_lawstepsright) (defBody s_lawstepsright) (defScope s_lawstepsright) .none kV_lawstepsright dc_lawstepsright pm_lawstepsright an_lawstepsright cd_lawstepsright ct_lawstepsright), sl_lawstepsright⟩)
    (c_lawstepsright : PySem.W.codeIn K cd_lawstepsright "_law_steps_right" = true) (k_lawstepsright : PySem.W.keepIn K (.ref f_lawstepsright) = true)
    {f_law : Addr} {od_law an_law : Option Addr} {sl_law : Array (Option Value)} {oc_law kV_law dc_law pm_law cd_law ct_law : Value}
    (a_law : PySem.W.nsIn K mainGlobals "law" = some (some (.ref f_law)))
    (l_law : K.lookup f_law = some ⟨oc_law, od_law, .func (PySem.W.fnOf "law" "law" (defArgs s_law) (defBody s_law) (defScope s_law) .none kV_law dc_law pm_law an_law cd_law ct_law), sl_law⟩)
    (c_law : PySem.W.codeIn K cd_law "law" = true) (k_law : PySem.W.keepIn K (.ref f_law) = true)
    (z_len : PySem.W.nsIn K mainGlobals "len" = some none)
    (z_min : PySem.W.nsIn K mainGlobals "min" = some none)
    (z_max : PySem.W.nsIn K mainGlobals "max" = some none)
    (z_range : PySem.W.nsIn K mainGlobals "range" = some none)
    (z_isinstance : PySem.W.nsIn K mainGlobals "isinstance" = some none)
    (z_sorted : PySem.W.nsIn K mainGlobals "sorted" = some none)
    (z_repr : PySem.W.nsIn K mainGlobals "repr" = some none)
    (z_enumerate : PySem.W.nsIn K mainGlobals "enumerate" = some none)
    (z_reversed : PySem.W.nsIn K mainGlobals "reversed" = some none)
    (z_bool : PySem.W.nsIn K mainGlobals "bool" = some none)
    (z_int : PySem.W.nsIn K mainGlobals "int" = some none)
    (z_str : PySem.W.nsIn K mainGlobals "str" = some none)
    (z_list : PySem.W.nsIn K mainGlobals "list" = some none)
    (z_tuple : PySem.W.nsIn K mainGlobals "tuple" = some none)
    : ∃ fd : FuncData, (∀ (s : Shared) (v : Value), BindsTo s fd ⟨[v], []⟩ [("script", v)]) ∧ ∀ base : Heap, K.In base → base.Ns mainGlobals mg → Top l.prog w K mg base 9 fa fd "script" (spLaw K) := by
  have e := hfa.symm.trans (PySem.W.mg_of X G a_law)
  cases e
  have B : Bi mg := ⟨PySem.W.mg_none_of X G z_len, PySem.W.mg_none_of X G z_min, PySem.W.mg_none_of X G z_max, PySem.W.mg_none_of X G z_range, PySem.W.mg_none_of X G z_isinstance, PySem.W.mg_none_of X G z_sorted, PySem.W.mg_none_of X G z_repr, PySem.W.mg_none_of X G z_enumerate, PySem.W.mg_none_of X G z_reversed, PySem.W.mg_none_of X G z_bool, PySem.W.mg_none_of X G z_int, PySem.W.mg_none_of X G z_str, PySem.W.mg_none_of X G z_list, PySem.W.mg_none_of X G z_tuple⟩
  have F_checklist := fun_mk (st := s_checklist) l_checklist c_checklist k_checklist
  have b_checklist := F_checklist.binds (ps := ["replacements"]) fun _ _ _ _ _ _ us hl => match us, hl with | [_], _ => rfl
  have g_checklist := PySem.W.mg_of X G a_checklist
  have F_checknumber := fun_mk (st := s_checknumber) l_checknumber c_checknumber k_checknumber
  have b_checknumber := F_checknumber.binds (ps := ["number", "least"]) fun _ _ _ _ _ _ us hl => match us, hl with | [_, _], _ => rfl
  have g_checknumber := PySem.W.mg_of X G a_checknumber
  have F_reach : FunD K "reach" "reach" (defArgs s_reach) (defBody s_reach) (defScope s_reach) [.int 1] [] f_reach _ := ⟨⟨_, _, _, _, _, _, _, _, _, _, rfl, l_reach, c_reach, .inr ⟨by simp, T_reach, _, _, _, rfl, lT_reach, rfl, .cons ⟨_, rfl⟩ (.nil)⟩, .inl rfl⟩, k_reach⟩
  have g_reach := PySem.W.mg_of X G a_reach
  have F_bestreach : FunD K "best_reach" "best_reach" (defArgs s_bestreach) (defBody s_bestreach) (defScope s_bestreach) [.int 1] [] f_bestreach _ := ⟨⟨_, _, _, _, _, _, _, _, _, _, rfl, l_bestreach, c_bestreach, .inr ⟨by simp, T_bestreach, _, _, _, rfl, lT_bestreach, rfl, .cons ⟨_, rfl⟩ (.nil)⟩, .inl rfl⟩, k_bestreach⟩
  have g_bestreach := PySem.W.mg_of X G a_bestreach
  have F_feweststeps : FunD K "fewest_steps" "fewest_steps" (defArgs s_feweststeps) (defBody s_feweststeps) (defScope s_feweststeps) [.int 1] [] f_feweststeps _ := ⟨⟨_, _, _, _, _, _, _, _, _, _, rfl, l_feweststeps, c_feweststeps, .inr ⟨by simp, T_feweststeps, _, _, _, rfl, lT_feweststeps, rfl, .cons ⟨_, rfl⟩ (.nil)⟩, .inl rfl⟩, k_feweststeps⟩
  have g_feweststeps := PySem.W.mg_of X G a_feweststeps
  have F_bestlists : FunD K "best_lists" "best_lists" (defArgs s_bestlists) (defBody s_bestlists) (defScope s_bestlists) [.int 1] [] f_bestlists _ := ⟨⟨_, _, _, _, _, _, _, _, _, _, rfl, l_bestlists, c_bestlists, .inr ⟨by simp, T_bestlists, _, _, _, rfl, lT_bestlists, rfl, .cons ⟨_, rfl⟩ (.nil)⟩, .inl rfl⟩, k_bestlists⟩
  have g_bestlists := PySem.W.mg_of X G a_bestlists
  have F_reachwith := fun_mk (st := s_reachwith) l_reachwith c_reachwith k_reachwith
  have b_reachwith := F_reachwith.binds (ps := ["number", "longest"]) fun _ _ _ _ _ _ us hl => match us, hl with | [_, _], _ => rfl
  have g_reachwith := PySem.W.mg_of X G a_reachwith
  have F_bestnumbers := fun_mk (st := s_bestnumbers) l_bestnumbers c_bestnumbers k_bestnumbers
  have b_bestnumbers := F_bestnumbers.binds (ps := ["longest"]) fun _ _ _ _ _ _ us hl => match us, hl with | [_], _ => rfl
  have g_bestnumbers := PySem.W.mg_of X G a_bestnumbers
  have F_greatestreachwithone := fun_mk (st := s_greatestreachwithone) l_greatestreachwithone c_greatestreachwithone k_greatestreachwithone
  have b_greatestreachwithone := F_greatestreachwithone.binds (ps := ["longest"]) fun _ _ _ _ _ _ us hl => match us, hl with | [_], _ => rfl
  have g_greatestreachwithone := PySem.W.mg_of X G a_greatestreachwithone
  have F_bestchoices := fun_mk (st := s_bestchoices) l_bestchoices c_bestchoices k_bestchoices
  have b_bestchoices := F_bestchoices.binds (ps := ["steps", "most"]) fun _ _ _ _ _ _ us hl => match us, hl with | [_, _], _ => rfl
  have g_bestchoices := PySem.W.mg_of X G a_bestchoices
  have F_listat := fun_mk (st := s_listat) l_listat c_listat k_listat
  have b_listat := F_listat.binds (ps := ["choices", "place"]) fun _ _ _ _ _ _ us hl => match us, hl with | [_, _], _ => rfl
  have g_listat := PySem.W.mg_of X G a_listat
  have F_lawsource := fun_mk (st := s_lawsource) l_lawsource c_lawsource k_lawsource
  have b_lawsource := F_lawsource.binds (ps := ["script"]) fun _ _ _ _ _ _ us hl => match us, hl with | [_], _ => rfl
  have g_lawsource := PySem.W.mg_of X G a_lawsource
  have F_lawdraw := fun_mk (st := s_lawdraw) l_lawdraw c_lawdraw k_lawdraw
  have b_lawdraw := F_lawdraw.binds (ps := ["source", "many"]) fun _ _ _ _ _ _ us hl => match us, hl with | [_, _], _ => rfl
  have g_lawdraw := PySem.W.mg_of X G a_lawdraw
  have F_lawsame := fun_mk (st := s_lawsame) l_lawsame c_lawsame k_lawsame
  have b_lawsame := F_lawsame.binds (ps := ["found", "wanted"]) fun _ _ _ _ _ _ us hl => match us, hl with | [_, _], _ => rfl
  have g_lawsame := PySem.W.mg_of X G a_lawsame
  have F_lawleastrun := fun_mk (st := s_lawleastrun) l_lawleastrun c_lawleastrun k_lawleastrun
  have b_lawleastrun := F_lawleastrun.binds (ps := ["row", "goal"]) fun _ _ _ _ _ _ us hl => match us, hl with | [_, _], _ => rfl
  have g_lawleastrun := PySem.W.mg_of X G a_lawleastrun
  have F_lawmostof := fun_mk (st := s_lawmostof) l_lawmostof c_lawmostof k_lawmostof
  have b_lawmostof := F_lawmostof.binds (ps := ["reached"]) fun _ _ _ _ _ _ us hl => match us, hl with | [_], _ => rfl
  have g_lawmostof := PySem.W.mg_of X G a_lawmostof
  have F_lawlistsright := fun_mk (st := s_lawlistsright) l_lawlistsright c_lawlistsright k_lawlistsright
  have b_lawlistsright := F_lawlistsright.binds (ps := ["source", "many", "goal", "due", "even"]) fun _ _ _ _ _ _ us hl => match us, hl with | [_, _, _, _, _], _ => rfl
  have g_lawlistsright := PySem.W.mg_of X G a_lawlistsright
  have F_lawstepsright := fun_mk (st := s_lawstepsright) l_lawstepsright c_lawstepsright k_lawstepsright
  have b_lawstepsright := F_lawstepsright.binds (ps := ["source", "goal", "bests"]) fun _ _ _ _ _ _ us hl => match us, hl with | [_, _, _], _ => rfl
  have g_lawstepsright := PySem.W.mg_of X G a_lawstepsright
  have F_law := fun_mk (st := s_law) l_law c_law k_law
  exact ⟨_, fun s v => .of_eq rfl, fun base _ _ => by
    have D_checklist : Df l.prog w K mg base 1 "check_list" ["replacements"] (spCheckList K) := .mk' F_checklist (ok_checklist F_checklist B) g_checklist b_checklist
    have D_checknumber : Df l.prog w K mg base 1 "check_number" ["number", "least"] spCheckNumber := .mk' F_checknumber (ok_checknumber F_checknumber) g_checknumber b_checknumber
    have D_reachwith : Df l.prog w K mg base 1 "reach_with" ["number", "longest"] spReachWith := .mk' F_reachwith (ok_reachwith F_reachwith) g_reachwith b_reachwith
    have D_bestnumbers : Df l.prog w K mg base 1 "best_numbers" ["longest"] spBestNumbers := .mk' F_bestnumbers (ok_bestnumbers F_bestnumbers) g_bestnumbers b_bestnumbers
    have D_grow : Df l.prog w K mg base 2 "greatest_reach_with_one" ["longest"] spGrow := .mk' F_greatestreachwithone (ok_grow F_greatestreachwithone D_reachwith D_bestnumbers) g_greatestreachwithone b_greatestreachwithone
    obtain ⟨D_bestreach, V_bestreach⟩ := bestreach_d (P := l.prog) (w := w) (mg := mg) (base := base) F_bestreach (ok_bestreach F_bestreach B D_checknumber D_grow) g_bestreach
    have D_feweststeps := fewest_d (P := l.prog) (w := w) (mg := mg) (base := base) F_feweststeps (ok_feweststeps F_feweststeps B D_checknumber D_grow) g_feweststeps
    have D_reach := reach_d (P := l.prog) (w := w) (mg := mg) (base := base) F_reach (ok_reach F_reach B D_checklist D_checknumber D_reachwith) g_reach
    have D_bestchoices : Df l.prog w K mg base 3 "best_choices" ["steps", "most"] spBestChoices := .mk' F_bestchoices (ok_bestchoices F_bestchoices B D_bestnumbers D_grow) g_bestchoices b_bestchoices
    have D_listat : Df l.prog w K mg base 1 "list_at" ["choices", "place"] spListAt := .mk' F_listat (ok_listat F_listat B) g_listat b_listat
    have G_bestlists := bestlists_g (P := l.prog) (w := w) (mg := mg) (base := base) F_bestlists (ok_bestlists F_bestlists B D_checknumber D_bestchoices D_listat) g_bestlists
    have D_lawsource : Df l.prog w K mg base 1 "_law_source" ["script"] (spSource K) := .mk' F_lawsource (ok_lawsource F_lawsource B) g_lawsource b_lawsource
    have D_lawdraw : Df l.prog w K mg base 1 "_law_draw" ["source", "many"] spDraw := .mk' F_lawdraw (ok_lawdraw F_lawdraw) g_lawdraw b_lawdraw
    have D_lawsame : Df l.prog w K mg base 2 "_law_same" ["found", "wanted"] (spSame K 1) := .mk' F_lawsame (ok_lawsame F_lawsame B g_lawsame b_lawsame 1) g_lawsame b_lawsame
    have D_lawleastrun : Df l.prog w K mg base 1 "_law_least_run" ["row", "goal"] (spLeast K) := .mk' F_lawleastrun (ok_lawleastrun F_lawleastrun B) g_lawleastrun b_lawleastrun
    have D_lawmostof : Df l.prog w K mg base 2 "_law_most_of" ["reached"] spMost := .mk' F_lawmostof (ok_lawmostof F_lawmostof B D_lawleastrun) g_lawmostof b_lawmostof
    have D_lawlistsright : Df l.prog w K mg base 9 "_law_lists_right" ["source", "many", "goal", "due", "even"] spListsR := .mk' F_lawlistsright (ok_lawlistsright F_lawlistsright B D_lawdraw D_lawleastrun G_bestlists D_reach) g_lawlistsright b_lawlistsright
    have D_lawstepsright : Df l.prog w K mg base 4 "_law_steps_right" ["source", "goal", "bests"] spStepsR := .mk' F_lawstepsright (ok_lawstepsright F_lawstepsright B D_lawdraw D_lawsame D_feweststeps D_bestreach) g_lawstepsright b_lawstepsright
    exact ok_law F_law B D_lawsource D_lawdraw D_lawmostof D_lawsame D_bestreach V_bestreach D_lawlistsright D_lawstepsright⟩
end Sq
open PySem PySem.W PyProof.Rows
set_option maxRecDepth 100000 in
set_option maxHeartbeats 0 in
theorem PySem.Challenge.cw_squeezelists_k08_great_best_lists_holds : PySem.Challenge.rw_squeezelists_k08_great_best_lists.Holds := by
  w_on; o_law; k_head; (case hw => w_witness2)
  k_fill
  refine Sq.walkAt (l := PySem.Challenge.rw_squeezelists_k08_great_best_lists) (n := 63) (k := 9) (x := "script") (sp := fun w => Sq.spLaw _) rfl (by decide) rfl (fun w h Y => PySem.W.kIn_of Y) ?F (fun _ _ a ns hl _ hS => ⟨a, ns, rfl, hS, hl, fun _ => rfl⟩)
  case F =>
    intro w mg fa h KX G hmg
    refine' Sq.all_mk KX G hmg ?a_checklist ?l_checklist ?c_checklist ?k_checklist ?a_checknumber ?l_checknumber ?c_checknumber ?k_checknumber ?a_reach ?l_reach ?c_reach ?k_reach ?lT_reach ?a_bestreach ?l_bestreach ?c_bestreach ?k_bestreach ?lT_bestreach ?a_feweststeps ?l_feweststeps ?c_feweststeps ?k_feweststeps ?lT_feweststeps ?a_bestlists ?l_bestlists ?c_bestlists ?k_bestlists ?lT_bestlists ?a_reachwith ?l_reachwith ?c_reachwith ?k_reachwith ?a_bestnumbers ?l_bestnumbers ?c_bestnumbers ?k_bestnumbers ?a_greatestreachwithone ?l_greatestreachwithone ?c_greatestreachwithone ?k_greatestreachwithone ?a_bestchoices ?l_bestchoices ?c_bestchoices ?k_bestchoices ?a_listat ?l_listat ?c_listat ?k_listat ?a_lawsource ?l_lawsource ?c_lawsource ?k_lawsource ?a_lawdraw ?l_lawdraw ?c_lawdraw ?k_lawdraw ?a_lawsame ?l_lawsame ?c_lawsame ?k_lawsame ?a_lawleastrun ?l_lawleastrun ?c_lawleastrun ?k_lawleastrun ?a_lawmostof ?l_lawmostof ?c_lawmostof ?k_lawmostof ?a_lawlistsright ?l_lawlistsright ?c_lawlistsright ?k_lawlistsright ?a_lawstepsright ?l_lawstepsright ?c_lawstepsright ?k_lawstepsright ?a_law ?l_law ?c_law ?k_law ?z_len ?z_min ?z_max ?z_range ?z_isinstance ?z_sorted ?z_repr ?z_enumerate ?z_reversed ?z_bool ?z_int ?z_str ?z_list ?z_tuple
    (case a_checklist => k_is); (case l_checklist => k_is); (case c_checklist => k_is); (case k_checklist => k_is); (case a_checknumber => k_is); (case l_checknumber => k_is); (case c_checknumber => k_is); (case k_checknumber => k_is); (case a_reach => k_is); (case l_reach => k_is); (case c_reach => k_is); (case k_reach => k_is); (case lT_reach => k_is); (case a_bestreach => k_is); (case l_bestreach => k_is); (case c_bestreach => k_is); (case k_bestreach => k_is); (case lT_bestreach => k_is); (case a_feweststeps => k_is); (case l_feweststeps => k_is); (case c_feweststeps => k_is); (case k_feweststeps => k_is); (case lT_feweststeps => k_is); (case a_bestlists => k_is); (case l_bestlists => k_is); (case c_bestlists => k_is); (case k_bestlists => k_is); (case lT_bestlists => k_is); (case a_reachwith => k_is); (case l_reachwith => k_is); (case c_reachwith => k_is); (case k_reachwith => k_is); (case a_bestnumbers => k_is); (case l_bestnumbers => k_is); (case c_bestnumbers => k_is); (case k_bestnumbers => k_is); (case a_greatestreachwithone => k_is); (case l_greatestreachwithone => k_is); (case c_greatestreachwithone => k_is); (case k_greatestreachwithone => k_is); (case a_bestchoices => k_is); (case l_bestchoices => k_is); (case c_bestchoices => k_is); (case k_bestchoices => k_is); (case a_listat => k_is); (case l_listat => k_is); (case c_listat => k_is); (case k_listat => k_is); (case a_lawsource => k_is); (case l_lawsource => k_is); (case c_lawsource => k_is); (case k_lawsource => k_is); (case a_lawdraw => k_is); (case l_lawdraw => k_is); (case c_lawdraw => k_is); (case k_lawdraw => k_is); (case a_lawsame => k_is); (case l_lawsame => k_is); (case c_lawsame => k_is); (case k_lawsame => k_is); (case a_lawleastrun => k_is); (case l_lawleastrun => k_is); (case c_lawleastrun => k_is); (case k_lawleastrun => k_is); (case a_lawmostof => k_is); (case l_lawmostof => k_is); (case c_lawmostof => k_is); (case k_lawmostof => k_is); (case a_lawlistsright => k_is); (case l_lawlistsright => k_is); (case c_lawlistsright => k_is); (case k_lawlistsright => k_is); (case a_lawstepsright => k_is); (case l_lawstepsright => k_is); (case c_lawstepsright => k_is); (case k_lawstepsright => k_is); (case a_law => k_is); (case l_law => k_is); (case c_law => k_is); (case k_law => k_is); (case z_len => k_is); (case z_min => k_is); (case z_max => k_is); (case z_range => k_is); (case z_isinstance => k_is); (case z_sorted => k_is); (case z_repr => k_is); (case z_enumerate => k_is); (case z_reversed => k_is); (case z_bool => k_is); (case z_int => k_is); (case z_str => k_is); (case z_list => k_is); (case z_tuple => k_is)


