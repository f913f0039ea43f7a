import PyProof.Rows.All
import Wide.All
import OpenK.AllK
import Wide.FinOn
import HandS.ForMost
import HandS.IsInst
import HandS.Walk
import HandS.Defaults
import HandS.RaiseMore
import HandS.Wide
import HandS.Exc
import HandS.ExcOwn
import HandS.ExcInit
import HandS.ExcSuper
import KE.KExcSuper
import HandS.ExcValue
import HandS.ExcIs
import HandS.ExcField
import HandS.GenList
import HandS.WordsExc
import HandS.HotCalls
import HandS.Comp
import HandS.Deep
import HandS.Text
import HandS.StrMore
import HandS.Property
import HandS.MakeKw
import HandS.MakeKwOnly
import HandS.Style
import HandS.GenBody
import HandS.GenYield
import PyProof.GenComp
import PyProof.ForAny
import HandS.Strs
import HandS.SetBool
import HandS.More
import HandS.FStr
import HandS.WideBits
import HandS.NoneIn
import PySem.Challenge.RW_squeezelists_k41_texts_read
set_option Elab.async false
set_option linter.all false
set_option maxRecDepth 100000
set_option maxHeartbeats 2000000
/-! The layer for the laws: a def of the law run at the outermost call (where no repr is under way), repr of data, calls by keywords alone. -/
namespace Sq
open PySem PySem.Spec PyProof.Rows L2

/-! ### the law's own def, at one given surrounding -/
theorem fnAt {CX : CXT} {P : Program} {w : World} {K : PySem.W.Frag} {mg : Str → Option Value} {base : Heap} {k : Nat} {f : Addr} {nmF qualF : Str} {prm : Arguments} {bd : List Stmt} {scp : Scope}
    {dflt kwd docv pmv cdv ctv ocv : Value} {anv odv : Option Addr} {slv : Array (Option Value)} {names prs : List Str} {sp : Sp} {A : Around}
    (stands : K.lookup f = some ⟨ocv, odv, .func (PySem.W.fnOf nmF qualF prm bd scp dflt kwd docv pmv anv cdv ctv), slv⟩)
    (code : PySem.W.codeIn K cdv qualF = true) (sc : FnScope names prs scp)
    (count : ∀ vs H Q E, sp vs H Q E → vs.length = prs.length)
    (inner : ∀ (outer : List Env) (s : Shared) (H : Hp) (vs : List V) (Q : VK) (E : XK), Room k (A.deeper (envOfC qualF scp s.heap.objs.size f cdv)) → sp vs H Q E →
      ∃ t, PSs (cxOf CX P w K mg base names qualF scp f cdv A outer s H E) bd t ∧ t { nx := fun _ H' => Q .non H', rt := Q } (start names vs) H)
    {outer : List Env} {s : Shared} {H : Hp} {ag : Args} {us : List Value} {vs : List V} {Q : VK} {E : XK}
    (room : Room (k + 1) A) (entry : Env0 P w K mg base A outer s H)
    (bound : BindsTo s (PySem.W.fnOf nmF qualF prm bd scp dflt kwd docv pmv anv cdv ctv) ag (prs.zip us)) (rel : Vals vs us) (wish : sp vs H Q E) :
    codeAny (model P w) A (.call (.ref f) ag) (CR CX outer P w H s Q E) s := by
  have written : K.In s.heap := entry.mod.kin.keeps (fun b o e => (entry.bs b o e).1)
  have roomy : s.heap.NoLimit := entry.mod.nolimit.keeps (fun b o e => (entry.bs b o e).1)
  refine codeAny_call_function room.depth (written _ _ stands) rfl sc.co sc.gen rfl (PySem.W.codeRec_of written code) (bound _ _ _ _ ?_)
  refine wpAny_newFunctionEnv_cells sc.kind ?kinds ?body
  case kinds =>
    rintro ⟨n, v⟩ hn
    have inP := (List.of_mem_zip hn).1
    cases sc.par n inP with
    | inl q => exact Or.inl q
    | inr q => exact Or.inr ⟨q, PySem.W.cellsFrom_some _ _ _ (Or.inl q)⟩
  case body =>
    intro env eqn s1 fresh
    subst eqn
    refine ⟨roomy.keeps fresh.toInCall.keep, codeAny_func ?_⟩
    obtain ⟨t, steps, holds⟩ := inner outer s H vs Q E (room.deeper _) wish
    have inv := inv_start (CX := CX) (mg := mg) (base := base) (E := E) sc room.hd entry (count _ _ _ _ wish) rel fresh
    refine wpAny_mono (steps.run [] s1 (start names vs) H _ inv holds) ?_ (fun _ _ q => q)
    intro flow s' got
    cases flow with
    | ret u =>
      obtain ⟨v, σ', H', J, rv, q⟩ := got
      exact ⟨v, H', J.os, J.bare, J.base, J.hok, rv, q⟩
    | next =>
      obtain ⟨σ', H', J, q⟩ := got
      exact ⟨V.non, H', J.os, J.bare, J.base, J.hok, rfl, q⟩
    | brk => exact got.elim fun _ h => h.elim fun _ h => False.elim h.2
    | cont => exact got.elim fun _ h => h.elim fun _ h => False.elim h.2

/-- what the top's def promises at the outermost call alone -/
def Top (P : Program) (w : World) (K : PySem.W.Frag) (mg : Str → Option Value) (base : Heap) (k : Nat) (f : Addr) (fd : FuncData) (x : Str) (sp : Sp) : Prop :=
  ∀ (s : Shared) (H : Hp) (ag : Args) (u : Value) (v : V) (Q : VK), Env0 P w K mg base callerA [] s H → BindsTo s fd ag [(x, u)] → RelV v u → sp [v] H Q (fun _ _ _ => False) →
    codeAny (model P w) callerA (.call (.ref f) ag) (CR CX0 [] P w H s Q (fun _ _ _ => False)) s

theorem atTop {P : Program} {w : World} {K : PySem.W.Frag} {mg : Str → Option Value} {base : Heap} {k : Nat} {f : Addr} {fd : FuncData} {x y qual : Str} {st : Stmt} {names : List Str} {sp : Sp}
    (F : Fun K y qual st f fd) (sc : FnScope names [x] (defScope st)) (room : Room (k + 1) callerA) (count : ∀ vs H Q E, sp vs H Q E → vs.length = 1)
    (inner : ∀ (cdv : Value) (outer : List Env) (s : Shared) (H : Hp) (vs : List V) (Q : VK) (E : XK), Room k (callerA.deeper (envOfC qual (defScope st) s.heap.objs.size f cdv)) → sp vs H Q E →
      ∃ t, PSs (cxOf CX0 P w K mg base names qual (defScope st) f cdv callerA outer s H E).nox (defBody st) t ∧ t { nx := fun _ H' => Q .non H', rt := Q } (start names vs) H) :
    Top P w K mg base k f fd x sp := by
  intro s H ag u v Q e0 hb hv hs
  obtain ⟨oc, od, kV, doc, pm, an, cdv, ct, osl, rfl, lk, hcd⟩ := F.ex
  refine fnAt (us := [u]) (vs := [v]) lk hcd sc count (fun outer s' H' vs' Q' E' room' wish => ?_) room e0 hb (.cons hv .nil) hs
  obtain ⟨t, h, q⟩ := inner cdv outer s' H' vs' Q' E' room' wish
  exact ⟨t, h.nox, q⟩

/-- from the def's promise at the outermost call to the row's claim about that call -/
theorem lawAt {P : Program} {w : World} {K : PySem.W.Frag} {mg mb : Str → Option Value} {k : Nat} {fa a : Addr} {fd : FuncData} {x : Str} {sp : Sp} {s₁ : Shared} {cells : List Value} {nums : List Int}
    (inK : K.In s₁.heap) (nsM : s₁.heap.Ns mainGlobals mg) (nsB : s₁.heap.Ns builtinsNs mb) (boot : ∀ y : Str, y ≠ "__name__" → mb y = bootBuiltins y) (lim : s₁.heap.NoLimit) (gens : s₁.gens = #[])
    (script : s₁.heap.get? a = some { cls := .type "list", data := .seq cells.toArray }) (are : IntsAre cells nums) (few : nums.length ≤ sizeLine)
    (main : ∀ base : Heap, K.In base → base.Ns mainGlobals mg → Top P w K mg base k fa fd x sp) (binds : ∀ (s : Shared) (u : Value), BindsTo s fd ⟨[u], []⟩ [(x, u)])
    (told : ∀ H : Hp, Only H → SqL K H a (nums.map V.int) → sp [.ref a] H (fun v _ => v = .bl true) fun _ _ _ => False) :
    codeAny (model P w) callerA (.call (.ref fa) ⟨[.ref a], []⟩) (fun r s' => r = .ok (.ret (.bool true)) ∧ OldK s₁.heap s'.heap ∧ s'.os = s₁.os ∧ AllBare s'.gens) s₁ := by
  have rel := vals_ints are
  have same := are.length
  suffices goal : ∀ H : Hp, Only H → SqL K H a (nums.map V.int) → HOk P w H s₁.heap → (∀ b o, H b = some o → b = a ∧ K.lookup a = none) →
      codeAny (model P w) callerA (.call (.ref fa) ⟨[.ref a], []⟩) (fun r s' => r = .ok (.ret (.bool true)) ∧ OldK s₁.heap s'.heap ∧ s'.os = s₁.os ∧ AllBare s'.gens) s₁ by
    cases look : K.lookup a with
    | some o =>
      have here := inK a o look
      rw [script] at here
      cases here
      exact goal (fun _ => none) (fun _ => Or.inl rfl) (Or.inr ⟨_, cells.toArray, _, look, rfl, rfl, rfl, (by rw [List.size_toArray, same]; exact few), (by simpa using rel)⟩) (fun b u z => by cases (show (none : Option HO) = some u from z)) (fun b o z => by cases (show (none : Option HO) = some o from z))
    | none =>
      let Ha : Hp := fun b => if b = a then some (.frz { cls := .type "list", data := .seq cells.toArray } (.lst (nums.map V.int))) else none
      have at_a : Ha a = some (.frz { cls := .type "list", data := .seq cells.toArray } (.lst (nums.map V.int))) := if_pos rfl
      have off : ∀ b o, Ha b = some o → b = a := fun b o z => by
        by_cases hb : b = a
        · exact hb
        · rw [show Ha b = none from if_neg hb] at z
          cases z
      refine goal Ha (fun b => ?_) (Or.inl (Or.inr ⟨_, at_a⟩)) (fun b u z => ?_) (fun b o z => ⟨off b o z, look⟩)
      · by_cases hb : b = a
        · exact Or.inr ⟨_, _, if_pos hb⟩
        · exact Or.inl (if_neg hb)
      · obtain rfl := off b u z
        rw [at_a] at z
        cases z
        exact ⟨script, by rw [List.length_map]; exact few, cells, _, rel, script⟩
  intro H only seq hok apart
  have free : ∀ {b : Addr} {o : Obj}, s₁.heap.get? b = some o → (∀ u, H b = some u → False) → (hidT s₁.heap H).get? b = some o := fun {b o} e n =>
    hidT_get e (by
      cases q : H b with
      | none => rfl
      | some u => exact (n u q).elim)
  have nsH : ∀ {b : Addr} {m : Str → Option Value}, s₁.heap.Ns b m → (hidT s₁.heap H).Ns b m := by
    rintro b m ⟨o, es, ep, e, d, r⟩
    refine ⟨o, es, ep, free e fun u z => ?_, d, r⟩
    obtain ⟨rfl, _⟩ := apart b u z
    rw [script] at e
    cases e
    cases (show Data.seq cells.toArray _ = Data.dict es ep from d)
  have kH : K.In (hidT s₁.heap H) := fun b o e => free (inK b o e) fun u z => by
    obtain ⟨rfl, n⟩ := apart b u z
    rw [n] at e
    cases e
  have mod : Mod K mg (hidT s₁.heap H) := ⟨kH, nsH nsM, ⟨mb, nsH nsB, boot⟩, let ⟨mc, h1, h2⟩ := lim; ⟨mc, nsH h1, h2⟩⟩
  have entry : Env0 P w K mg (hidT s₁.heap H) callerA [] s₁ H :=
    ⟨rfl, mod, fun b o e => of_hidT e, Nat.le_of_eq (hidT_size _ _), trivial, fun b hb => absurd (show b ∈ ([] : List Addr) from hb) (by simp), hok, .of_eq gens⟩
  refine codeAny_mono (main _ kH (nsH nsM) s₁ H ⟨[.ref a], []⟩ (.ref a) (.ref a) _ entry (binds s₁ (.ref a)) rfl (told H only seq)) ?_
  intro r s' got
  match r, got with
  | .ok (.ret u), got =>
    obtain ⟨v, H', os, bare, un, hok', rv, q⟩ := got
    obtain rfl : v = .bl true := q
    obtain rfl : u = Value.bool true := rv
    refine ⟨rfl, OldK.of_keep fun b o e => ?_, os, bare⟩
    rcases only b with z | ⟨ob, xs, z⟩
    · exact un.keep b o e z (by intro y; exact absurd (show b ∈ ([] : List Addr) from y) (by simp)) (by simp)
    · obtain ⟨e1, _⟩ := hok b _ z
      obtain ⟨e2, _⟩ := hok' b _ (un.frzs b ob _ z)
      rw [e] at e1
      cases e1
      exact e2

/-- the goal that k_head leaves, from the law's promise at the outermost call -/
theorem walkAt {l : PySem.W.OpenLaw} {n k : Nat} {q : Program} {loose : List Str} {XP : (Str → Option Value) → Heap → Prop} {YP : World → Heap → Prop} {d : DefRec} {K : Params → PySem.W.Frag} {sp : World → Sp} {x : Str}
    (most : l.most = some n) (line : n ≤ sizeLine) (plain : d.params.defaults = []) (inK : ∀ (w : World) (h : Heap), YP w h → (K w.params).In h)
    (F : ∀ (w : World) (mg : Str → Option Value) (fa : Addr) (h : Heap), (K w.params).In h → h.Ns mainGlobals mg → mg d.name = some (.ref fa) →
      ∃ fd : FuncData, (∀ (s : Shared) (u : Value), BindsTo s fd ⟨[u], []⟩ [(x, u)]) ∧ ∀ base : Heap, (K w.params).In base → base.Ns mainGlobals mg → Top l.prog w (K w.params) mg base k fa fd x (sp w))
    (told : ∀ (w : World) (H : Hp) (a : Addr) (ns : List Int), ns.length ≤ n → Only H → SqL (K w.params) H a (ns.map V.int) → sp w [.ref a] H (fun v _ => v = .bl true) fun _ _ _ => False) :
    PySem.W.WalkO q loose XP YP l.row.toRowW d [] (fun f vs => PySem.call f vs) := by
  refine Att.attach_call most plain ?_
  intro w s₀ s₁ mg mb fa o pm cd doc a vs ns G Y ho hd hcd hmg hobj hints hlen hg
  obtain ⟨fd, hb, hF⟩ := F w mg fa _ (inK w _ Y) G.T.g hmg
  exact lawAt (inK w _ Y) G.T.g G.T.b G.T.builtins G.T.nolimit hg hobj hints (Nat.le_trans hlen line) hF hb fun H hO hS => told w H a ns hlen hO hS

/-! ### repr of data, where no repr is under way -/
def rReprD (K : PySem.W.Frag) : List V → Hp → VK → Prop := fun xs H Q => ∃ a d, xs = [.ref a] ∧ Dp K H (.ref a) d ∧ d.showable = true ∧ d.hasDict = false ∧ d.depth ≤ 40 ∧ d.shown.length ≤ sizeLine ∧ Q (.str d.shown) H
theorem call_reprD {X : Cx} (hg : X.A.guards = some []) (hu : X.A.units + 64 < cLine) : CallR X (.builtin "repr") (rReprD X.K) := by
  intro pins s σ H xs us Q I r h
  obtain ⟨a, d, rfl, hd, sh, nd, dep, sz, q⟩ := h
  obtain ⟨u, rfl, rv⟩ := vals1 r
  obtain rfl : u = Value.ref a := rv
  obtain ⟨as, rd⟩ := Dp.reads I d _ _ hd (show RelV (.ref a) (.ref a) from rfl)
  refine repr_of_reads' rd sh (by rw [nd]; exact fun z => nomatch z) hg (by omega) (fun b o e => e) (fun h' u tk keep => ?_) sz
  exact ⟨.str _, H, I.kept keep, ⟨_, rfl⟩, q⟩

/-! ### f(k = v, ..): keywords alone -/
section
variable {X : Cx} {CX : CXT} {k : Nat} {f : Addr} {fd : FuncData} {ps ks : List Str} {sp : Sp} {E : XK} {x : Str} {p pos : Pos} {kws : List Keyword} {tk : TA} {g : List Value → List Value → List Value} {gV : List V → List V → List V}
theorem pe_callK0 (F : FnOk X.prog X.w X.K X.mg X.base CX k f fd ps sp) (hr : Room k X.A) (hg : Gl X x) (hm : X.mg x = some (.ref f)) (hk : PySem.W.keepIn X.K (.ref f) = true) (hb : KBn X.K fd ps 0 ks g gV) (hx : Passes CX X E) (hkw : PK X kws tk)
    (hall : (backToKw pos (keywordEach kws X.env)).all (·.1.isSome) = true := by rfl) (hks : (backToKw pos (keywordEach kws X.env)).filterMap (·.1) = ks := by rfl) (hdb : (x == ("__debug__" : Str)) = false := by decide)
    (hpl : ((backTo pos (starEach [] X.env)).any (·.1) || (backToKw pos (keywordEach kws X.env)).any (·.1.isNone)) = false := by rfl) :
    PE X (.Call (.Name x p) [] kws pos) (tCallN 0 ks.length sp gV E tNil tk) := by
  refine ⟨fun pins s σ H Q I h => ?_⟩
  refine wpAny_Call_Name_kw (ld_glob I hg hm ?_ hdb)
  refine PySem.W.callWith_KW0 (h₀ := X.base) I.ok.mod.kin hk hall ?_ hpl
  refine thn (hkw.run pos pins s σ H _ I h) ?_
  rintro ws s2 ⟨zs, H2, I2, rz, l1, l2, q2⟩
  refine ⟨I2.kIn, ?_⟩
  rw [hks]
  exact run_fnN F hr hb hx I2 (.nil) rz l1 l2 q2
end
end Sq

namespace Sq
open PySem PySem.Spec PyProof.Rows L2
/-- what a caller wants of a def of the text: it stands at its name and keeps its promise -/
structure Df (P : Program) (w : World) (K : PySem.W.Frag) (mg : Str → Option Value) (base : Heap) (k : Nat) (x : Str) (ps : List Str) (sp : Sp) : Prop where
  ex : ∃ f fd, FnOk P w K mg base CX0 k f fd ps sp ∧ mg x = some (.ref f) ∧ PySem.W.keepIn K (.ref f) = true ∧ Binds K fd ps []
section
variable {X : Cx} {k : Nat} {ps : List Str} {sp : Sp} {x : Str} {p pos : Pos} {e : Expr} {es : List Expr} {t : TA}
theorem pe_callD (D : Df X.prog X.w X.K X.mg X.base k x ps sp) (hr : Room k X.A) (hg : Gl X x) (ha : PA X (e :: es) t) (hdb : (x == ("__debug__" : Str)) = false := by decide)
    (he : starEach (e :: es) X.env = (false, eval e X.env) :: starEach es X.env := by rfl) (hpl : (backTo pos (starEach es X.env)).any (·.1) = false := by rfl) :
    PE X (.Call (.Name x p) (e :: es) [] pos) (tCall sp [] E0 t) := by
  obtain ⟨f, fd, F, g, kp, b⟩ := D.ex
  exact pe_call F hr hg g kp b .nil pass0 ha hdb he hpl
end
section
variable {P : Program} {w : World} {K : PySem.W.Frag} {mg : Str → Option Value} {base : Heap}
/-- a def without defaults, from its place in the text and its promise -/
theorem Df.mk' {k : Nat} {x : Str} {st : Stmt} {ps : List Str} {sp : Sp} {f : Addr} {fd : FuncData} (F : Fun K x x st f fd) (G : FnOk P w K mg base CX0 k f fd ps sp) (g : mg x = some (.ref f)) (b : Binds K fd ps []) : Df P w K mg base k x ps sp :=
  ⟨⟨f, fd, G, g, F.kp, b⟩⟩
end
end Sq

namespace Sq
open PySem PySem.Spec PyProof.Rows L2
/-- a def with defaults, no error leaves it -/
theorem okD {P : Program} {w : World} {K : PySem.W.Frag} {mg : Str → Option Value} {base : Heap} {x qual : Str} {prm : Arguments} {bd : List Stmt} {scp : Scope} {dvs : List V} {kws : List (Str × V)} {f : Addr} {fd : FuncData} {names ps : List Str} {k : Nat} {sp : Sp}
    (F : FunD K x qual prm bd scp dvs kws f fd) (sc : FnScope names ps scp) (count : ∀ vs H Q E, sp vs H Q E → vs.length = ps.length)
    (inner : ∀ (cdv : Value) (A : Around) (outer : List Env) (s : Shared) (H : Hp) (vs : List V) (Q : VK) (E : XK), Room k (A.deeper (envOfC qual scp s.heap.objs.size f cdv)) → sp vs H Q E →
      ∃ t, PSs (cxOf CX0 P w K mg base names qual scp f cdv A outer s H E).nox bd t ∧ t { nx := fun _ H' => Q .non H', rt := Q } (start names vs) H) : FnOk P w K mg base CX0 (k + 1) f fd ps sp :=
  F.ok sc count fun cdv A outer s H vs Q E hr h => let ⟨t, a, b⟩ := inner cdv A outer s H vs Q E hr h; ⟨t, a.nox, b⟩

/-- the same as Df for a call that leaves the last ones to their defaults dvs -/
structure Dv (P : Program) (w : World) (K : PySem.W.Frag) (mg : Str → Option Value) (base : Heap) (k : Nat) (x : Str) (ps : List Str) (dvs : List V) (sp : Sp) : Prop where
  ex : ∃ f fd ds, FnOk P w K mg base CX0 k f fd ps sp ∧ mg x = some (.ref f) ∧ PySem.W.keepIn K (.ref f) = true ∧ Vals dvs ds ∧ Binds K fd ps ds
/-- .. by keywords alone -/
structure Dk (P : Program) (w : World) (K : PySem.W.Frag) (mg : Str → Option Value) (base : Heap) (k : Nat) (x : Str) (ps ks : List Str) (gV : List V → List V → List V) (sp : Sp) : Prop where
  ex : ∃ f fd g, FnOk P w K mg base CX0 k f fd ps sp ∧ mg x = some (.ref f) ∧ PySem.W.keepIn K (.ref f) = true ∧ KBn K fd ps 0 ks g gV
section
variable {X : Cx} {k : Nat} {ps ks : List Str} {sp : Sp} {x : Str} {p pos : Pos} {e : Expr} {es : List Expr} {t tk : TA} {dvs : List V} {gV : List V → List V → List V} {kws : List Keyword}
theorem pe_callV (D : Dv X.prog X.w X.K X.mg X.base k x ps dvs sp) (hr : Room k X.A) (hg : Gl X x) (ha : PA X (e :: es) t) (hdb : (x == ("__debug__" : Str)) = false := by decide)
    (he : starEach (e :: es) X.env = (false, eval e X.env) :: starEach es X.env := by rfl) (hpl : (backTo pos (starEach es X.env)).any (·.1) = false := by rfl) :
    PE X (.Call (.Name x p) (e :: es) [] pos) (tCall sp dvs E0 t) := by
  obtain ⟨f, fd, ds, F, g, kp, hd, b⟩ := D.ex
  exact pe_call F hr hg g kp b hd pass0 ha hdb he hpl
theorem pe_callKD (D : Dk X.prog X.w X.K X.mg X.base k x ps ks gV sp) (hr : Room k X.A) (hg : Gl X x) (hkw : PK X kws tk)
    (hall : (backToKw pos (keywordEach kws X.env)).all (·.1.isSome) = true := by rfl) (hks : (backToKw pos (keywordEach kws X.env)).filterMap (·.1) = ks := by rfl) (hdb : (x == ("__debug__" : Str)) = false := by decide)
    (hpl : ((backTo pos (starEach [] X.env)).any (·.1) || (backToKw pos (keywordEach kws X.env)).any (·.1.isNone)) = false := by rfl) :
    PE X (.Call (.Name x p) [] kws pos) (tCallN 0 ks.length sp gV E0 tNil tk) := by
  obtain ⟨f, fd, g, F, hm, kp, b⟩ := D.ex
  exact pe_callK0 F hr hg hm kp b pass0 hkw hall hks hdb hpl
end
theorem vals_nil {ds : List Value} (h : Vals [] ds) : ds = [] := by
  cases h
  rfl
end Sq

namespace Sq
open PySem PySem.Spec PyProof.Rows L2
theorem vals_rev : ∀ {zs : List V} {ws : List Value}, Vals zs ws → Vals zs.reverse ws.reverse
  | [], [], _ => .nil
  | _ :: _, _ :: _, .cons h t => by
    rw [List.reverse_cons, List.reverse_cons]
    exact (vals_rev t).append (.cons h .nil)
/-- keywords, where the def has defaults and no keyword-only parameters -/
theorem kbinds' {K : PySem.W.Frag} {x qual : Str} {prm : Arguments} {bd : List Stmt} {scp : Scope} {dvs : List V} {f : Addr} {fd : FuncData} {ps : List Str}
    (F : FunD K x qual prm bd scp dvs [] f fd) (n : Nat) (ks : List Str) (g : List Value → List Value → List Value) (gV : List V → List V → List V) (hd : dvs ≠ [])
    (rel : ∀ {vs : List V} {us : List Value} {zs : List V} {ws : List Value}, Vals vs us → Vals zs ws → Vals (gV vs zs) (g us ws))
    (h : ∀ (T : Addr) (kV doc pm : Value) (an : Option Addr) (cdv ct : Value) (us its ws : List Value), us.length = n → its.length = dvs.length → ws.length = ks.length →
      ∃ k, bindArgs (PySem.W.fnOf x qual prm bd scp (.ref T) kV doc pm an cdv ct) ⟨us, ks.zip ws⟩ = seqItems? (.ref T) >>= k ∧ k (some its.toArray) = pure (ps.zip (g us ws))) : KBn K fd ps n ks g gV := by
  obtain ⟨oc, od, dV, kV, doc, pm, an, cdv, ct, osl, rfl, lk, hcd, hD, hK⟩ := F.ex
  rcases hD with ⟨e, _⟩ | ⟨_, T, o, its, m, rfl, lT, oT, rT⟩
  · exact absurd e hd
  · refine ⟨fun s us ws X l1 l2 => ?_, rel⟩
    obtain ⟨k, e1, e2⟩ := h T kV doc pm an cdv ct us its ws l1 rT.length.symm l2
    refine BindsTo.of_looks fun M => ?_
    rw [e1]
    exact looks_items X lT oT (.of_pure e2)
end Sq

namespace Sq
open PySem PySem.Spec PyProof.Rows L2
/-- a test whose ways are told apart from what follows -/
theorem tell {c : TT} {σ : L2.St} {H : Hp} {Q : Bool → Hp → Prop} (T F : Hp → Prop) (h : ∀ Q' : Bool → Hp → Prop, (∀ H2, T H2 → Q' true H2) → (∀ H2, F H2 → Q' false H2) → c σ H Q') (hT : ∀ H2, T H2 → Q true H2) (hF : ∀ H2, F H2 → Q false H2) : c σ H Q := h Q hT hF
/-- a value that is told apart from what follows -/
theorem tellV {c : TE} {σ : L2.St} {H : Hp} {Q : VK} (T : V → Hp → Prop) (h : ∀ Q' : VK, (∀ v H2, T v H2 → Q' v H2) → c σ H Q') (hT : ∀ v H2, T v H2 → Q v H2) : c σ H Q := h Q hT
/-- a statement that goes on alone -/
theorem tellS {c : TS} {D : Ends} {σ : L2.St} {H : Hp} (T : L2.St → Hp → Prop) (h : ∀ N : L2.St → Hp → Prop, (∀ σ2 H2, T σ2 H2 → N σ2 H2) → c { D with nx := N } σ H) (hT : ∀ σ2 H2, T σ2 H2 → D.nx σ2 H2) : c D σ H := h D.nx hT
end Sq

set_option Elab.async false
set_option linter.all false
set_option maxRecDepth 100000
set_option maxHeartbeats 2000000
/-! Own errors whose __init__ says super().__init__(..) and stores its argument as value. -/
namespace SqX
open PySem PySem.W PySem.Calls PyProof.Rows PySem.HandSPX
def xA (p1 p2 : Pos) : Arguments := { posonlyargs := [], args := [{ arg := "self", annotation := none, pos := p1 }, { arg := "value", annotation := none, pos := p2 }], vararg := none, kwonlyargs := [], kw_defaults := [], kwarg := none, defaults := [] }
def xB (msg : Str) (j : Nat) (q0 q1 q2 q3 q4 q5 r1 r2 r3 r4 : Pos) : List Stmt :=
  [.Expr (.Call (.Attribute (.Call (.Name "super" q0) [] [] q1) "__init__" q2) [.Constant (.str msg) j q3] [] q4) q5, .Assign [.Attribute (.Name "self" r1) "value" r2] (.Name "value" r3) r4]
def xS : Scope := { kind := .function, names := [(PySem.Str.ofString "self", .local), (PySem.Str.ofString "value", .local), (PySem.Str.ofString "__class__", .free), (PySem.Str.ofString "super", .globalImplicit)], isGenerator := false, isCoroutine := false, more := [] }
/-- what the written part says of such a class at C, of its __init__ at fI -/
structure Er (K : Frag) (prog : Program) (C fI : Addr) (q : Str) : Prop where
  cls : ∃ nm qn N bs bm sn sub ab col dd k0 k1 k2 k3 k5, K.lookup C = some (excClassObj nm qn C N bs bm true sn sub ab col dd k0 k1 k2 k3 k5 "ValueError.__new__") ∧ refsVE bm = true
  sa : findIn K (.ref C) "__setattr__" = some (some (.builtin "object.__setattr__"))
  noV : findIn K (.ref C) "value" = some none
  iC : findIn K (.ref C) "__init__" = some (some (.ref fI))
  tC : typeIn K (.ref fI) = some (.type "function")
  kC : keepIn K (.ref C) = true
  exC : subIn K (.ref C) (.type "BaseException") = some true
  veC : subIn K (.ref C) (.type "ValueError") = some true
  tyC : typeIn K (.ref C) = some (.type "type")
  mC : mroIn K C (.ref C) = some true
  suC : ks_superIn K C C "__init__" = some (some (.builtin "ValueError.__init__"))
  third : nsIn K cStatics "thirdparty.any" = some none
  super : nsIn K mainGlobals "super" = some none
  top : (prog.main.scope.names.lookup ("super" : Str)).isSome = false
  fn : ∃ (oc : Value) (od : Option Addr) (doc pm : Value) (an : Option Addr) (ct : Value) (osl : Array (Option Value)) (cda cc : Addr) (msg : Str) (j : Nat) (p1 p2 q0 q1 q2 q3 q4 q5 r1 r2 r3 r4 : Pos) (ccl : Value) (cdd : Option Addr) (vs : Array Value) (ccs : Array (Option Value)) (file : Str) (tf : Tok) (cl : Value) (cld : Option Addr) (csl : Array (Option Value)),
    K.lookup fI = some ⟨oc, od, .func (ksFn "__init__" q (xA p1 p2) (xB msg j q0 q1 q2 q3 q4 q5 r1 r2 r3 r4) xS .none .none doc pm an (.ref cda) ct cc), osl⟩ ∧ codeIn K (.ref cda) q = true ∧
    K.lookup cda = some ⟨ccl, cdd, .fields vs, ccs⟩ ∧ vs[2]? = some (.str file tf) ∧ ((prog.main.file : Str) == file) = true ∧ K.lookup cc = some ⟨cl, cld, .cell (some (.ref C)), csl⟩ ∧ (q2.endLine == q4.line) = true
/-- what __init__ leaves of a fresh exception at x -/
structure Inited (h h' : Heap) (x C dx t1 : Addr) (v : Value) : Prop where
  keep : ∀ b o, b ≠ x → h.get? b = some o → h'.get? b = some o
  obj : h'.get? x = some { cls := .ref C, dict := some dx, data := .fields #[.ref t1, .none, .none, .none, .bool false, .none] }
  dbig : h.objs.size ≤ dx
  dne : dx ≠ x
  ns : h'.Ns1 dx (fun y => if y = "value" then some v else none)
theorem one_size (v : Value) : [v].length ≤ sizeLine := by
  rw [sizeLine_eq]
  exact (by decide : 1 ≤ 16777216)
theorem call_is {o e : Expr} {name : Str} {apos pos : Pos} {env : Env} (hline : (apos.endLine == pos.line) = true) (he : starEach [e] env = [(false, eval e env)]) :
    eval (.Call (.Attribute o name apos) [e] [] pos) env = (do
      let ov ← attributeBase o name env (eval o env)
      standAt apos.atName
      let (f, first) ← holding [ov] (getMethod ov name (do return (← importBound o env).getD true))
      callWith pos f first (backTo pos (starEach [e] env)) []) := by
  rw [arm_eval_Call]
  have hf : methodCallForm 1 (backTo pos (starEach [e] env)) (backToKw pos (keywordEach [] env)) = true := by
    rw [he]
    rfl
  have hp : methodCallPos true o env apos pos = pure pos := by
    unfold methodCallPos
    simp [hline]
  refine congrArg _ (funext fun ov => congrArg _ (funext fun _ => ?_))
  show methodCall o name apos pos env ov 1 (backTo pos (starEach [e] env)) (backToKw pos (keywordEach [] env)) = _
  unfold methodCall
  rw [hf, hp]
  rfl
/-- the bound ValueError.__init__ called: the args are laid anew -/
theorem call_mw {prog : Program} {w : World} {A : Around} {E : Value → Shared → Prop} {h : Heap} {g : Array GenState} {d : Drawn} {t : Nat} {os : OsState}
    {nm qn : Str} {C N : Addr} {bs bm : List Value} {hdct : Bool} {sn : List Str} {sub : List Value} {ab : Bool} {col : Option Bool} {dd : Option Addr} {k0 k1 k2 k3 k5 : Option Value} {u e t0 : Addr} {rest : List Value} {Q : Value → Shared → Prop}
    (atC : h.get? C = some (excClassObj nm qn C N bs bm hdct sn sub ab col dd k0 k1 k2 k3 k5 "ValueError.__new__")) (atE : h.get? e = some (excO C t0)) (atU : h.get? u = some (kxs_mw "ValueError.__init__" e)) (line : rest.length ≤ sizeLine)
    (fin : ∀ h' t1, (∀ b o, b ≠ e → h.get? b = some o → h'.get? b = some o) → h'.get? e = some (excO C t1) → Q .none ⟨h', g, d, t, os⟩) :
    wpAny (model prog w) A (call (.ref u) rest) Q E ⟨h, g, d, t, os⟩ := by
  refine wpAny_call (codeAny_of_tree ?_)
  show wpAny _ A.in1 (callAny (.ref u) ⟨rest, []⟩) _ _ _
  simp only [callAny]
  refine wpAny_bind (wpAny_load atU ?_)
  simp only [kxs_mw, show (Value.type "method-wrapper" == Value.type "method" || Value.type "method-wrapper" == Value.type "builtin_function_or_method" || Value.type "method-wrapper" == Value.type "method-wrapper") = true by decide, if_true]
  refine W.KFB.if_so (by decide) ?_
  refine wpAny_bind (ESX.check_bound F.excBase_ValueError atC atE rfl ?_)
  refine wpAny_bind (wpAny_pure (wpAny_pure ?_))
  refine ⟨Code.quiet_builtin _ (by decide +kernel), codeAny_builtin F.excBase_ValueError.initEntry ?_⟩
  rw [Around.under_plainId F.excBase_ValueError.init.plain _]
  wp_walk
  refine fin _ h.objs.size (fun b o nb hb => ?_) ?_
  · exact (Heap.get?_update_other _ _ (Ne.symm nb)).trans (Heap.get?_push_of_some _ hb)
  · exact (Heap.get?_update_self _ (Heap.get?_push_of_some _ atE) rfl).trans rfl
section
variable {prog : Program} {w : World} {A : Around} {E : Value → Shared → Prop} {R : Result → Shared → Prop} {s : Shared} {K : Frag} {mg : Str → Option Value} {base : Heap} {C fI : Addr} {q : Str}
theorem init (T : Er K prog C fI q) {x t0 : Addr} {v : Value} {args : Args} (X : K.In s.heap) (hg : s.heap.Ns mainGlobals mg) (hlim : s.heap.NoLimit) {mb : Str → Option Value} (hb : s.heap.Ns builtinsNs mb) (boot : ∀ y : Str, y ≠ "__name__" → mb y = bootBuiltins y)
    (hx : s.heap.get? x = some (excO C t0)) (hnx : K.lookup x = none) (hroom : A.depth < recursionLimit)
    (hargs : ∀ fd : FuncData, (∃ p1 p2 bd doc pm an cda ct cc, fd = ksFn "__init__" q (xA p1 p2) bd xS .none .none doc pm an (.ref cda) ct cc) → BindsTo s fd args [("self", .ref x), ("value", v)])
    (hq : ∀ h' tk dx t1, Inited s.heap h' x C dx t1 v → R (.ok (.ret .none)) { s with heap := h', toks := tk }) :
    codeAny (model prog w) A (.call (.ref fI) args) R s := by
  obtain ⟨oc, od, doc, pm, an, ct, osl, cda, cc, msg, j, p1, p2, q0, q1, q2, q3, q4, q5, r1, r2, r3, r4, ccl, cdd, vs, ccs, file, tf, cl, cld, csl, ho, hcd, hcode, hvs, hfile, hcell, hline⟩ := T.fn
  obtain ⟨nm, qn, N, bs, bm, sn, sub, ab, col, dd, k0, k1, k2, k3, k5, hC, hbm⟩ := T.cls
  have hcl : clsIn K C = some { name := nm, bases := bs, mro := .ref C :: bm, ns := N, qualname := qn, hasDict := true, slotNames := sn, subclasses := sub, abstract := ab, collection := col, hasDel := false } := by unfold clsIn; rw [hC] <;> rfl
  refine ks_codeAny_call_defAt (fd := ksFn "__init__" q (xA p1 p2) (xB msg j q0 q1 q2 q3 q4 q5 r1 r2 r3 r4) xS .none .none doc pm an (.ref cda) ct cc) (binds := [("self", .ref x), ("value", v)]) hroom (X _ _ ho) rfl hlim (codeRec_of X hcd) rfl
    (hargs _ ⟨_, _, _, _, _, _, _, _, _, rfl⟩) (show ∀ x ∈ xS.names, x.2 ≠ .cell by decide) (fun y hy => ?loc) (fun h₁ hns k => ?_)
  case loc =>
    rcases List.mem_cons.mp hy with rfl | hy
    · exact (show xS.names.lookup ("self" : Str) = some .local by decide)
    · obtain rfl := List.mem_singleton.mp hy
      exact (show xS.names.lookup ("value" : Str) = some .local by decide)
  have X₁ : K.In h₁ := X.keeps k
  have hx₁ := k _ _ hx
  obtain ⟨hh, g, d, t, os⟩ := s
  show _root_.PySem.wpAt _ _ _ (execs (xB msg j q0 q1 q2 q3 q4 q5 r1 r2 r3 r4) _) _ _ _
  refine ks_wpAt_execs_cons (ks_wpAt_Expr_any (ks_wpAt_MethodCall ?_ (call_is hline rfl)))
  obtain ⟨oD, hD1, hD2⟩ : ∃ oD, h₁.get? C = some oD ∧ ∃ cdD, oD.data = .cls cdD := ⟨_, X₁ _ _ hC, _, rfl⟩
  obtain ⟨cdD, hD2⟩ := hD2
  have I₁ : InstAt h₁ x (excO C t0) C none := ⟨hx₁, rfl, rfl, trivial⟩
  refine ks_wpAt_super_base (f := fI) (cc := cda) rfl rfl rfl rfl (X₁ _ _ ho) rfl rfl rfl (X₁ _ _ hcode) rfl hvs hfile T.top ?_
  refine ks_loadName_global rfl rfl (loadGlobal_builtin (hg.keeps k) (mg_none_of X hg T.super) (hb.keeps k) ((boot _ (by decide +kernel)).trans (by decide +kernel)) ⟨rfl, ?_⟩)
  refine wpAny_loadName_free rfl rfl rfl ⟨_, X₁ _ _ hcell, rfl⟩ ?_
  refine wpAny_loadName_local (v := .ref x) rfl rfl hns rfl ?_
  refine ks_wpAny_isType_cls hD1 hD2 ⟨rfl, ?_⟩
  refine ks_wpAny_call_super hD1 hD2 I₁.at_ I₁.cls (fun c e => by cases e) (looks_mroIn X₁ T.mC) (fun h₂ e₂ k₂ => ?_)
  have X₂ : K.In h₂ := X₁.keeps k₂
  have hx₂ := k₂ _ _ hx₁
  have I₂ : InstAt h₂ x (excO C t0) C none := ⟨hx₂, rfl, rfl, trivial⟩
  have al := T.suC
  unfold ks_superIn at al
  rw [hcl] at al
  refine kxs_getMethod kxs_ValueError e₂ (looks_opaque X₂ T.third) (l₀ := .ref C :: bm) ((looks_clsIn X₂ hcl).andThen .now) rfl X₂ al (I₂.type.andThen (looks_subIn X₂ T.veC)) (ks_ne X₂ I₂ hcl) (by decide) ?_
  have k₃ : ∀ b o, h₂.get? b = some o → (h₂.push (kxs_mw "ValueError.__init__" x)).get? b = some o := fun b o e => Heap.get?_push_of_some _ e
  have hu : (h₂.push (kxs_mw "ValueError.__init__" x)).get? h₂.objs.size = some (kxs_mw "ValueError.__init__" x) := Heap.get?_push_at rfl rfl
  refine kxs_callWith (i := "ValueError.__init__") (x := x) rfl (evalArgs_plain ?_)
  refine Calls.spliced_cons ?_
  show wpAny _ _ (eval (.Constant (.str msg) j q3) _) _ _ _
  refine Calls.Constant_str ?_
  refine Calls.spliced_nil ⟨hu, ?_⟩
  refine call_mw (k₃ _ _ (X₂ _ _ hC)) (k₃ _ _ hx₂) hu (one_size _) (fun h₄ t1 k₄ hx₄ => ?_)
  have kk : ∀ b o, b ≠ x → hh.get? b = some o → h₄.get? b = some o := fun b o nb e => k₄ b o nb (k₃ _ _ (k₂ _ _ (k _ _ e)))
  have X₄ : K.In h₄ := fun a o e => kk a o (fun z => by rw [z, hnx] at e; cases e) (X a o e)
  have nx : hh.objs.size ≠ x := fun z => by
    have := Heap.lt_size hx
    rw [← z] at this
    exact absurd this (Nat.lt_irrefl _)
  have ns₄ : h₄.Ns hh.objs.size (fun y => List.lookup y [(("self" : Str), Value.ref x), ("value", v)].reverse) :=
    hns.at fun o e => k₄ _ _ nx (k₃ _ _ (k₂ _ _ e))
  -- self.value = value
  refine ks_wpAt_execs_cons (wpAt_of_wpAny (plainObj_wpAny_Assign_Attribute ?_))
  refine wpAny_Name (wpAny_loadName_local (v := v) rfl rfl ns₄ rfl ?_) (by decide)
  refine wpAny_Name (wpAny_loadName_local (v := .ref x) rfl rfl ns₄ rfl ?_) (by decide)
  refine set_plain X₄ (ox := excO C t1) (od := none) ⟨hx₄, rfl, rfl, trivial⟩ T.sa ?_
  refine exc_osa X₄ hx₄ hcl (show refsVE (.ref C :: bm) = true from hbm) rfl T.noV (fun h₅ tk₅ dx k₅ dn dne hx₅ hn₅ => ?_)
  have big : hh.objs.size ≤ dx := by
    have l1 : hh.objs.size < h₁.objs.size := hns.lt
    have l2 : h₁.objs.size < h₂.objs.size := Heap.lt_size e₂
    have nu : h₂.objs.size ≠ x := Nat.ne_of_gt (Heap.lt_size hx₂)
    have l4 : h₂.objs.size < h₄.objs.size := Heap.lt_size (k₄ _ _ nu hu)
    have l5 : h₄.objs.size ≤ dx := dn
    exact Nat.le_trans (Nat.le_of_lt (Nat.lt_trans l1 (Nat.lt_trans l2 l4))) l5
  refine wpAt_of_wpAny (wpAny_execs_nil ?_)
  exact hq h₅ tk₅ dx t1 ⟨fun b o nb e => k₅ b o nb (kk b o nb e), hx₅, big, dne, hn₅⟩
end
end SqX

set_option Elab.async false
set_option linter.all false
set_option maxRecDepth 100000
set_option maxHeartbeats 2000000
namespace SqX
open PySem PySem.W PySem.Calls PyProof.Rows PySem.HandSPX
/-- a new error at e, its dict at d -/
structure New (h h' : Heap) (e C d t1 : Addr) (v : Value) : Prop where
  keep : ∀ b o, h.get? b = some o → h'.get? b = some o
  big : h.objs.size ≤ e
  obj : h'.get? e = some { cls := .ref C, dict := some d, data := .fields #[.ref t1, .none, .none, .none, .bool false, .none] }
  dbig : h.objs.size ≤ d
  dne : d ≠ e
  ns : h'.Ns1 d (fun y => if y = "value" then some v else none)
section
variable {prog : Program} {w : World} {A : Around} {E : Value → Shared → Prop} {R : Result → Shared → Prop} {K : Frag} {mg mb : Str → Option Value} {C fI : Addr} {q : Str}
theorem bind2 {s : Shared} {q : Str} {x v : Value} : ∀ fd : FuncData, (∃ p1 p2 bd doc pm an cda ct cc, fd = ksFn "__init__" q (xA p1 p2) bd xS .none .none doc pm an (.ref cda) ct cc) → BindsTo s fd ⟨[x, v], []⟩ [("self", x), ("value", v)] := by
  rintro fd ⟨p1, p2, bd, doc, pm, an, cda, ct, cc, rfl⟩
  exact BindsTo.of_eq (by first | rfl | with_unfolding_all rfl)
theorem bindK {s : Shared} {q : Str} {x v : Value} : ∀ fd : FuncData, (∃ p1 p2 bd doc pm an cda ct cc, fd = ksFn "__init__" q (xA p1 p2) bd xS .none .none doc pm an (.ref cda) ct cc) → BindsTo s fd ⟨[x], [("value", v)]⟩ [("self", x), ("value", v)] := by
  rintro fd ⟨p1, p2, bd, doc, pm, an, cda, ct, cc, rfl⟩
  exact BindsTo.of_eq (by first | rfl | with_unfolding_all rfl)
theorem made {s : Shared} (T : Er K prog C fI q) {v : Value} (X : K.In s.heap) (hg : s.heap.Ns mainGlobals mg) (hlim : s.heap.NoLimit) (hb : s.heap.Ns builtinsNs mb) (boot : ∀ y : Str, y ≠ "__name__" → mb y = bootBuiltins y)
    (hroom : A.depth + 1 < recursionLimit)
    (fin : ∀ h' tk e d t1, New s.heap h' e C d t1 v → R (.ok (.ret (.ref e))) { s with heap := h', toks := tk }) :
    codeAny (model prog w) A (.call (.ref C) ⟨[v], []⟩) R s := by
  obtain ⟨nm, qn, N, bs, bm, sn, sub, ab, col, dd, k0, k1, k2, k3, k5, hC, hbm⟩ := T.cls
  obtain ⟨hp, g, dr, tk, os⟩ := s
  have k : ∀ b o, hp.get? b = some o → ((hp.push (kdv_tup [v])).push (excO C hp.objs.size)).get? b = some o := fun b o e => Heap.get?_push_of_some _ (Heap.get?_push_of_some _ e)
  have atE : ((hp.push (kdv_tup [v])).push (excO C hp.objs.size)).get? (hp.objs.size + 1) = some (excO C hp.objs.size) := by heap_get
  have off : K.lookup (hp.objs.size + 1) = none := by
    cases e : K.lookup (hp.objs.size + 1) with
    | none => rfl
    | some o => exact absurd (Nat.lt_of_succ_lt (Heap.lt_size (X _ _ e))) (Nat.lt_irrefl _)
  refine call_own F.excBase_ValueError (fun Y => refsVE_contains Y bm hbm) (X _ _ hC) (looks_findIn X T.iC) (fun self => bind_fn X self T.tC) (one_size v) ?_
  refine init (s := ⟨(hp.push (kdv_tup [v])).push (excO C hp.objs.size), g, dr, tk, os⟩) T (X.keeps k) (hg.keeps k) (hlim.keeps k) (hb.keeps k) boot atE off (show A.depth + 1 < recursionLimit from hroom) bind2 ?_
  rintro h' tk' dx t1 ⟨kp, ob, dn, dne, ns⟩
  have old : ∀ b o, hp.get? b = some o → h'.get? b = some o := fun b o e => kp b o (Nat.ne_of_lt (Nat.lt_succ_of_lt (Heap.lt_size e))) (k b o e)
  have z : hp.objs.size + 1 + 1 ≤ dx := by
    first
      | (simpa only [Heap.size_push] using dn)
      | exact dn
      | (have y := dn; rw [Heap.size_push, Heap.size_push] at y; exact y)
  exact ⟨rfl, fin h' tk' (hp.objs.size + 1) dx t1 ⟨old, Nat.le_succ _, ob, Nat.le_trans (Nat.le_trans (Nat.le_succ _) (Nat.le_succ _)) z, dne, ns⟩⟩
end
end SqX

set_option Elab.async false
set_option linter.all false
set_option maxRecDepth 100000
set_option maxHeartbeats 4000000
/-! The same by keyword. -/
namespace SqX
open PySem PySem.W PySem.Calls PySem.HandSPX
section
variable {M : Model} {prog : Program} {w : World} {A : Around} {E : Value → Shared → Prop} {R : Result → Shared → Prop} {h : Heap} {g : Array GenState} {d : Drawn} {t : Nat} {os : OsState}
variable {nm qn : Str} {C N : Addr} {bs bm : List Value} {sn : List Str} {sub : List Value} {ab : Bool} {col : Option Bool} {dd : Option Addr} {k0 k1 k2 k3 k5 : Option Value} {v : Value}
abbrev VC (nm qn : Str) (C N : Addr) (bs bm : List Value) (sn : List Str) (sub : List Value) (ab : Bool) (col : Option Bool) (dd : Option Addr) (k0 k1 k2 k3 k5 : Option Value) : Obj := excClassObj nm qn C N bs bm true sn sub ab col dd k0 k1 k2 k3 k5 "ValueError.__new__"
theorem newCheckK (refs : refsVE bm = true) {Q : Unit → Shared → Prop} (atC : h.get? C = some (VC nm qn C N bs bm sn sub ab col dd k0 k1 k2 k3 k5)) (fin : Q () ⟨h, g, d, t, os⟩) :
    wpAny M A (checkBuiltinCall "ValueError.__new__" ⟨[.ref C], [("value", v)]⟩) Q E ⟨h, g, d, t, os⟩ := by
  have F := F.excBase_ValueError
  have has : (Value.ref C :: bm).contains (.type "ValueError") = true := by
    rw [List.contains_cons, refsVE_contains _ _ refs, F.hasB, Bool.or_true]
  have star := F.noStar
  simp only [checkBuiltinCall, F.newKind, F.newSplit, F.newRow]
  repeat (first
    | refine wpAny_loadPart_at atC ?_
    | (refine wpAny_isSubtype_exc atC ?_; rw [has])
    | refine wpAny_staticBase_exc atC ?_
    | refine wpAny_madeBy_exc atC ?_
    | simp only [bne_self_eq_false, Bool.false_eq_true, if_false]
    | wp_step)
  exact fin
theorem newK (refs : refsVE bm = true) (atC : h.get? C = some (VC nm qn C N bs bm sn sub ab col dd k0 k1 k2 k3 k5))
    (fin : R (.ok (.ret (.ref (h.objs.size + 1)))) ⟨(h.push (kdv_tup [])).push (excO C h.objs.size), g, d, t, os⟩) :
    codeAny (model prog w) A (.builtin "ValueError.__new__" ⟨[.ref C], [("value", v)]⟩) R ⟨h, g, d, t, os⟩ := by
  have F := F.excBase_ValueError
  have ends := F.ends
  have has : ∀ Y : String, (Value.ref C :: bm).contains (.type Y) = veTail.contains (.type Y) := fun Y => by
    rw [List.contains_cons, refsVE_contains _ _ refs]
    rfl
  have yB : (Value.ref C :: bm).contains (.type "ValueError") = true := (has _).trans (by decide +kernel)
  have nA : (Value.ref C :: bm).contains (.type "AttributeError") = false := (has _).trans (by decide +kernel)
  have nN : (Value.ref C :: bm).contains (.type "NameError") = false := (has _).trans (by decide +kernel)
  refine codeAny_builtinAt F.entry ?_
  unfold Builtin.«BaseException.__new__»
  refine wpAt_bind ?_
  show wpAt _ _ _ (stack >>= _) _ _ _
  refine wpAt_bind (wpAt_stack fun p below => wpAt_of_wpAny ?_)
  wp_walk
  refine wpAt_of_wpAny ?_
  rw [F.owner]
  repeat (first
    | with_reducible refine wpAny_madeHere_exc F.canon atC ?_
    | with_reducible refine wpAny_loadPart_at atC ?_
    | (with_reducible refine wpAny_isSubtype_exc atC ?_; first | rw [yB] | rw [nA] | rw [nN])
    | wp_step)
  show R _ _
  rw [Heap.size_push]
  exact fin
theorem typeCheckK {Q : Unit → Shared → Prop} (atC : h.get? C = some (VC nm qn C N bs bm sn sub ab col dd k0 k1 k2 k3 k5)) (fin : Q () ⟨h, g, d, t, os⟩) :
    wpAny M A (checkBuiltinCall "type.__call__" ⟨[.ref C], [("value", v)]⟩) Q E ⟨h, g, d, t, os⟩ := by
  have f3 := tc_sub
  have isT : (⟨h, g, d, t, os⟩ : Shared).TypeIs (.ref C) "type" := ⟨_, atC, rfl⟩
  simp only [checkBuiltinCall, tc_kind, tc_split]
  repeat (any_goals (first
    | assumption
    | with_reducible refine wpAny_loadPart_at atC ?_
    | with_reducible refine wpAny_onRaise ?_
    | with_reducible refine wpAny_map ?_
    | wp_step))
theorem typeCallK (refs : refsVE bm = true) {fI : Addr} {Q : Fin → Shared → Prop} (atC : h.get? C = some (VC nm qn C N bs bm sn sub ab col dd k0 k1 k2 k3 k5))
    (lookI : W.Looks (model prog w) h (typeLookup (.ref C) "__init__") (some (.ref fI))) (bindI : ∀ self, W.Looks (model prog w) h (bindSpecial (.ref fI) self) (.ref fI, [self]))
    (fin : codeAny (model prog w) A (.call (.ref fI) ⟨[.ref (h.objs.size + 1)], [("value", v)]⟩)
      (fun r s' => match r with | .ok (.ret u) => u = .none ∧ Q (.done (.ret (.ref (h.objs.size + 1)))) s' | .ok _ => False | .error e => E e s')
      ⟨(h.push (kdv_tup [])).push (excO C h.objs.size), g, d, t, os⟩) :
    wpAny (model prog w) A (Builtin.«type.__call__» ⟨[.ref C], [("value", v)]⟩) Q E ⟨h, g, d, t, os⟩ := by
  have F := F.excBase_ValueError
  repeat (first
    | with_reducible refine wpAny_loadPart_at atC ?_
    | with_reducible refine wpAny_madeBy_exc atC ?_
    | wp_step)
  refine codeAny_call_builtin_code (Code.quiet_builtin _ F.quiet) (newCheckK refs atC ?_)
  refine newK refs atC ?_
  show wpAny _ _ _ _ _ _
  have kp : ∀ b o, h.get? b = some o → ((h.push (kdv_tup [])).push (excO C h.objs.size)).get? b = some o := fun b o e => Heap.get?_push_of_some _ (Heap.get?_push_of_some _ e)
  have atC1 := kp _ _ atC
  have atE : ((h.push (kdv_tup [])).push (excO C h.objs.size)).get? (h.objs.size + 1) = some (excO C h.objs.size) := by heap_get
  have own : (Value.ref C :: bm).contains (.ref C) = true := by simp
  have look1 := lookI.keeps kp
  have bind1 := (bindI (.ref (h.objs.size + 1))).keeps kp
  unfold isInstance
  repeat (first
    | with_reducible refine wpAny_loadPart_at atE ?_
    | (with_reducible refine wpAny_isSubtype_exc atC1 ?_; rw [own])
    | wp_step)
  show wpAny _ _ (typeLookup (.ref C) _) _ _ _
  refine look1.at ?_
  refine wpAny_holding (wpAny_bind (bind1.at ?_))
  refine wpAny_bind (wpAny_call (codeAny_mono fin fun r s' z => ?_))
  match r, z with
  | .error e, z => exact z
  | .ok (.ret u), z =>
    obtain ⟨rfl, z⟩ := z
    first
      | exact wpAny_pure (wpAny_pure z)
      | (wp_walk; exact z)
theorem callK (refs : refsVE bm = true) {fI : Addr} (atC : h.get? C = some (VC nm qn C N bs bm sn sub ab col dd k0 k1 k2 k3 k5))
    (lookI : W.Looks (model prog w) h (typeLookup (.ref C) "__init__") (some (.ref fI))) (bindI : ∀ self, W.Looks (model prog w) h (bindSpecial (.ref fI) self) (.ref fI, [self]))
    (fin : codeAny (model prog w) (A.under (.builtin "type.__call__" ⟨[.ref C], [("value", v)]⟩)) (.call (.ref fI) ⟨[.ref (h.objs.size + 1)], [("value", v)]⟩) (W.InitBack (h.objs.size + 1) R)
      ⟨(h.push (kdv_tup [])).push (excO C h.objs.size), g, d, t, os⟩) :
    codeAny (model prog w) A (.call (.ref C) ⟨[], [("value", v)]⟩) R ⟨h, g, d, t, os⟩ := by
  have f1 := tc_lookup
  have f2 := tc_bind (.ref C)
  have isT : (⟨h, g, d, t, os⟩ : Shared).TypeIs (.ref C) "type" := ⟨_, atC, rfl⟩
  refine codeAny_of_tree ?_
  show wpAny _ _ (callAny (.ref C) _) _ _ _
  repeat (any_goals (first
    | assumption
    | with_reducible refine wpAny_loadPart_at atC ?_
    | wp_step))
  refine ⟨rfl, ?_⟩
  refine codeAny_call_builtin_at (Code.quiet_builtin _ (by decide +kernel)) entry_typeCall (typeCheckK atC (typeCallK refs atC lookI bindI ?_))
  refine codeAny_mono fin fun r s' z => ?_
  match r, z with
  | .error e, z => exact z
  | .ok (.ret u), z => exact z
end
section
variable {prog : Program} {w : World} {A : Around} {R : Result → Shared → Prop} {K : Frag} {mg mb : Str → Option Value} {C fI : Addr} {q : Str}
theorem madeK {s : Shared} (T : Er K prog C fI q) {v : Value} (X : K.In s.heap) (hg : s.heap.Ns mainGlobals mg) (hlim : s.heap.NoLimit) (hb : s.heap.Ns builtinsNs mb) (boot : ∀ y : Str, y ≠ "__name__" → mb y = bootBuiltins y)
    (hroom : A.depth + 1 < recursionLimit)
    (fin : ∀ h' tk e d t1, New s.heap h' e C d t1 v → R (.ok (.ret (.ref e))) { s with heap := h', toks := tk }) :
    codeAny (model prog w) A (.call (.ref C) ⟨[], [("value", v)]⟩) R s := by
  obtain ⟨nm, qn, N, bs, bm, sn, sub, ab, col, dd, k0, k1, k2, k3, k5, hC, hbm⟩ := T.cls
  obtain ⟨hp, g, dr, tk, os⟩ := s
  have k : ∀ b o, hp.get? b = some o → ((hp.push (kdv_tup [])).push (excO C hp.objs.size)).get? b = some o := fun b o e => Heap.get?_push_of_some _ (Heap.get?_push_of_some _ e)
  have atE : ((hp.push (kdv_tup [])).push (excO C hp.objs.size)).get? (hp.objs.size + 1) = some (excO C hp.objs.size) := by heap_get
  have off : K.lookup (hp.objs.size + 1) = none := by
    cases e : K.lookup (hp.objs.size + 1) with
    | none => rfl
    | some o => exact absurd (Nat.lt_of_succ_lt (Heap.lt_size (X _ _ e))) (Nat.lt_irrefl _)
  refine callK hbm (X _ _ hC) (looks_findIn X T.iC) (fun self => bind_fn X self T.tC) ?_
  refine init (s := ⟨(hp.push (kdv_tup [])).push (excO C hp.objs.size), g, dr, tk, os⟩) T (X.keeps k) (hg.keeps k) (hlim.keeps k) (hb.keeps k) boot atE off (show A.depth + 1 < recursionLimit from hroom) bindK ?_
  rintro h' tk' dx t1 ⟨kp, ob, dn, dne, ns⟩
  have old : ∀ b o, hp.get? b = some o → h'.get? b = some o := fun b o e => kp b o (Nat.ne_of_lt (Nat.lt_succ_of_lt (Heap.lt_size e))) (k b o e)
  have z : hp.objs.size + 1 + 1 ≤ dx := by
    first
      | (simpa only [Heap.size_push] using dn)
      | exact dn
      | (have y := dn; rw [Heap.size_push, Heap.size_push] at y; exact y)
  exact ⟨rfl, fin h' tk' (hp.objs.size + 1) dx t1 ⟨old, Nat.le_succ _, ob, Nat.le_trans (Nat.le_trans (Nat.le_succ _) (Nat.le_succ _)) z, dne, ns⟩⟩
end
end SqX

set_option Elab.async false
set_option linter.all false
set_option maxRecDepth 100000
set_option maxHeartbeats 2000000
/-! Own errors as values of the layer: made by position and by name, isinstance of them, their value. -/
namespace Sq
open PySem PySem.Spec PyProof.Rows L2
/-- an error of the class at C stands at a, its dict at d; it holds v -/
def ErrAt (H : Hp) (a d C : Addr) (v : V) : Prop := H a = some (exo a C (some d)) ∧ H d = some (exd d [(("value" : Str), v)])
theorem ErrAt.same {H H' : Hp} {a d C : Addr} {v : V} (s : Same H H') (e : ErrAt H a d C v) : ErrAt H' a d C v := ⟨s _ _ e.1, s _ _ e.2⟩
def tErr (C : Addr) (te : TE) : TE := fun σ H Q => te σ H fun v H1 => ∀ a d, H1 a = none → H1 d = none → d ≠ a → Q (.ref a) (upd (upd H1 d (exd d [(("value" : Str), v)])) a (exo a C (some d)))
section
variable {X : Cx} {C fI : Addr} {q : Str} {pins : List (Addr × Obj)} {σ : L2.St} {H : Hp} {s : Shared} {Q : VK}
/-- a made error comes into the layer's heap -/
theorem err_laid {h' : Heap} {e d t1 : Addr} {v : V} {u : Value} {tk : Nat} (I : Inv X pins σ H s) (r : RelV v u) (M : SqX.New s.heap h' e C d t1 u)
    (h : ∀ a d, H a = none → H d = none → d ≠ a → Q (.ref a) (upd (upd H d (exd d [(("value" : Str), v)])) a (exo a C (some d)))) : EP X pins σ Q (.ref e) { s with heap := h', toks := tk } := by
  have he : H e = none := I.hok.fresh M.big
  have hd : H d = none := I.hok.fresh M.dbig
  obtain ⟨G, g1, g2⟩ := restrict h' fun b => decide (b ≠ e)
  have gk : ∀ b, b ≠ e → G.get? b = h'.get? b := fun b hb => g1 b (decide_eq_true hb)
  have ge : G.get? e = none := g2 e (by simp)
  have old : ∀ b o, s.heap.get? b = some o → G.get? b = some o := fun b o z => (gk b (Nat.ne_of_lt (Nat.lt_of_lt_of_le (Heap.lt_size z) M.big))).trans (M.keep b o z)
  have up : ∀ b o, G.get? b = some o → h'.get? b = some o := fun b o z => by
    by_cases hb : b = e
    · rw [hb, ge] at z
      cases z
    · rw [← gk b hb]
      exact z
  have rel : ∀ f, RelO (List.lookup f [(("value" : Str), v)]) (if f = "value" then some u else none) := relO_put (fs := []) (mA := fun _ => none) r fun g => True.intro
  have nsG : G.Ns1 d (fun y => if y = "value" then some u else none) := M.ns.at fun o z => (gk d M.dne).trans z
  have J : Inv X pins σ (upd H d (exd d [(("value" : Str), v)])) { s with heap := G, toks := tk } := I.laid (t' := tk) old M.dbig (exd_ok nsG rel)
  have he2 : (upd H d (exd d [(("value" : Str), v)])) e = none := by rw [upd_ne (Ne.symm M.dne)]; exact he
  have J2 : Inv X pins σ (upd (upd H d (exd d [(("value" : Str), v)])) e (exo e C (some d))) { s with heap := h', toks := tk } := J.laidN (t' := tk) up ge he2 (exo_ok M.obj)
  exact ⟨.ref e, _, J2, rfl, h e d he hd M.dne⟩
/-- X(e) -/
theorem pe_err {e : Expr} {te : TE} {x : Str} {p pos : Pos} {k : Nat} (T : SqX.Er X.K X.prog C fI q) (gC : X.mg x = some (.ref C)) (hr : Room k X.A) (hg : Gl X x) (he : PE X e te)
    (hs : starEach [e] X.env = (false, eval e X.env) :: starEach [] X.env := by rfl) (hdb : (x == ("__debug__" : Str)) = false := by decide) : PE X (.Call (.Name x p) [e] [] pos) (tErr C te) := by
  refine ⟨fun pins s σ H Q I h => ?_⟩
  refine wpAny_Call_Name_kw (ld_glob I hg gC ?_ hdb)
  refine PySem.W.callWith_K (h₀ := X.base) I.ok.mod.kin T.kC ?_ hs (by rfl)
  rw [hs]
  show wpAny _ _ (spliced ((false, eval e X.env) :: backTo pos (starEach [] X.env))) _ _ s
  refine Calls.spliced_cons (thn (he.run pins s σ H _ I h) fun u s1 hh => ?_)
  obtain ⟨v, H1, I1, r1, q1⟩ := hh
  refine Calls.spliced_nil ⟨I1.kIn, ?_⟩
  show wpAny _ _ (call (.ref C) [u]) _ _ _
  obtain ⟨mb, hb, boot⟩ := I1.ok.mod.blt
  exact wpAny_call (SqX.made T I1.kIn (I1.ok.mod.glob.keeps I1.bk) I1.nolimit (hb.keeps I1.bk) boot (by have := hr.dp; omega) fun h' tk e d t1 M => err_laid I1 r1 M q1)
/-- X(value=e) -/
theorem pe_errK {e : Expr} {te : TE} {x : Str} {p pos kp : Pos} {k : Nat} (T : SqX.Er X.K X.prog C fI q) (gC : X.mg x = some (.ref C)) (hr : Room k X.A) (hg : Gl X x) (he : PE X e te) (hdb : (x == ("__debug__" : Str)) = false := by decide)
    (hpl : ((backTo pos (starEach [] X.env)).any (·.1) || (backToKw pos (keywordEach [⟨some "value", e, kp⟩] X.env)).any (·.1.isNone)) = false := by rfl) : PE X (.Call (.Name x p) [] [⟨some "value", e, kp⟩] pos) (tErr C te) := by
  refine ⟨fun pins s σ H Q I h => ?_⟩
  refine wpAny_Call_Name_kw (ld_glob I hg gC ?_ hdb)
  refine PySem.W.callWith_KW0 (h₀ := X.base) I.ok.mod.kin T.kC (by rfl) ?_ hpl
  refine thn ((pk_cons he pk_nil).run pos pins s σ H (fun zs H' => match zs with | [v] => ∀ a d, H' a = none → H' d = none → d ≠ a → Q (.ref a) (upd (upd H' d (exd d [(("value" : Str), v)])) a (exo a C (some d))) | _ => False) I ?_) ?_
  · exact h
  · rintro ws s2 ⟨zs, H2, I2, rz, q2⟩
    obtain ⟨v, rfl, q2⟩ : ∃ v, zs = [v] ∧ ∀ a d, H2 a = none → H2 d = none → d ≠ a → Q (.ref a) (upd (upd H2 d (exd d [(("value" : Str), v)])) a (exo a C (some d))) := by
      match zs, q2 with
      | [v], q2 => exact ⟨v, rfl, q2⟩
    refine ⟨I2.kIn, ?_⟩
    cases rz with
    | cons r1 rn =>
      cases rn
      rename_i u
      obtain ⟨mb, hb, boot⟩ := I2.ok.mod.blt
      show wpAny _ _ (call (.ref C) [] [(("value" : Str), u)]) _ _ _
      exact wpAny_call (SqX.madeK T I2.kIn (I2.ok.mod.glob.keeps I2.bk) I2.nolimit (hb.keeps I2.bk) boot (by have := hr.dp; omega) fun h' tk e d t1 M => err_laid I2 r1 M q2)
end
end Sq

set_option Elab.async false
set_option linter.all false
set_option maxRecDepth 100000
set_option maxHeartbeats 2000000
namespace SqX
open PySem PySem.W PySem.Spec PySem.Calls
section
variable {prog : Program} {w : World} {A : Around} {E : Value → Shared → Prop} {s : Shared} {K : Frag} {x D : Addr} {ox : Obj} {od : Option Obj}
/-- err.__class__, whatever the error's own dict holds -/
theorem classOf (T : L2.ExcC K D) (X : K.In s.heap) (I : InstAt s.heap x ox D od) {Q : Option Value → Shared → Prop} (fin : Q (some (.ref D)) { s with toks := s.toks + 1 }) :
    wpAny (model prog w) A (getAttr? (.ref x) "__class__") Q E s := by
  have found : findObj K D od "__class__" = some (.bind (.builtin "getset_descriptor.__get__") (.builtin "object.__class__")) := by
    obtain ⟨cd, hc, _⟩ := any_some T.hd
    unfold findObj
    rw [hc, Option.bind_some, T.ha, Option.bind_some]
    simp [T.hn, T.ht]
  obtain ⟨hp, g, d, t, os⟩ := s
  have ty := I.type (M := model prog w)
  have hookA := looks_findIn (M := model prog w) X T.hg
  have hookB := looks_findIn (M := model prog w) X T.hk
  have look := looks_find (M := model prog w) X I found
  have isB : Looks (model prog w) hp (isInstance (.ref x) (.type "BaseException")) true := ty.andThen (looks_subIn X T.hs)
  have differ : (Value.builtin "BaseException.__getattribute__" == Value.builtin "object.__getattribute__") = false := by decide +kernel
  have off : (onTheHeap (Value.ref D) && Value.builtin "BaseException.__getattribute__" == Value.builtin "object.__getattribute__") = false := by
    rw [differ]
    rfl
  unfold getAttr? getAttrBy? getAttrBy
  refine wpAny_bind (wpAny_mkText (wpAny_bind (wpAny_attempt (wpAny_holding (wpAny_bind (ty.at (wpAny_bind (hookA.at ?_))))))))
  show wpAny _ _ (if (onTheHeap (Value.ref D) && Value.builtin "BaseException.__getattribute__" == Value.builtin "object.__getattribute__") = true then _ else _) _ _ _
  rw [off, if_neg Bool.false_ne_true]
  unfold getAttrByItsOwn hookBefore
  refine wpAny_bind ?_
  rw [if_pos (show onTheHeap (Value.ref D) = true from rfl)]
  refine hookB.at ?_
  refine wpAny_bind (wpAny_attempt (wpAny_holding ?_))
  unfold callGetattribute
  rw [show (false && onTheHeap (Value.builtin "BaseException.__getattribute__")) = false from rfl, if_neg Bool.false_ne_true]
  unfold boundAndCalled
  rw [PySem.F.excAttr_ValueError.ga.bind (.ref x)]
  refine wpAny_bind (wpAny_pure ?_)
  show wpAny _ _ (call (.builtin "BaseException.__getattribute__") [.ref x, .str "__class__" t]) _ _ _
  refine wpAny_call (codeAny_call_builtin PySem.F.excAttr_ValueError.ga.plain PySem.F.entry_bexc_ga ?_)
  refine @check_slot (model prog w) _ _ ⟨hp, g, d, t + 1, os⟩ "BaseException.__getattribute__" "BaseException" "__getattribute__" (.ref x) [.str "__class__" t] [] _ (by decide +kernel) (by decide +kernel) isB (PySem.F.args_bexc_ga (.ref x) (.str "__class__" t)) ?_
  unfold Builtin.«object.__getattribute__»
  refine wpAny_bind (wpAny_of_eq (a := ((Value.ref x : Value), [Value.str "__class__" t])) (by first | rfl | (simp only [slotArgs]; rfl)) ?_)
  refine wpAny_bind (wpAny_pure (wpAny_bind (ty.at (wpAny_bind (look.at ?_)))))
  show wpAny _ _ (holding [Value.builtin "object.__class__"] (call (.builtin "getset_descriptor.__get__") [.builtin "object.__class__", .ref x, .ref D]) >>= ret) _ _ _
  refine wpAny_bind (wpAny_holding (wpAny_call (class_get (s := ⟨hp, g, d, t + 1, os⟩) (ox := ox) (od := od) X I T.hm ?_)))
  refine wpAny_pure ?_
  show wpAny _ _ (handedOut (.ref D)) _ _ _
  rw [handedOut_of (v := .ref D) rfl]
  first
    | exact wpAny_pure (wpAny_pure fin)
    | exact wpAny_pure fin
    | exact wpAny_pure (wpAny_bind (wpAny_pure (wpAny_pure fin)))
theorem kit (T : L2.ExcC K D) : KitX K (.ref x) (.ref D) (fun h => InstAt h x ox D od) where
  ty := fun _ _ _ I => I.type
  it := fun _ _ X _ => by
    obtain ⟨cdD, found, _⟩ := any_some T.hd
    unfold clsIn at found
    split at found
    · rename_i c' d' cd' sl' there
      intro A' Q' E' s' keep q
      unfold isType loadHead
      exact wpAny_bind (wpAny_loadPart (keep _ _ (X _ _ there)) (wpAny_pure q))
    · cases found
  ne := fun h tp dd its n sl X tup => by
    obtain ⟨cdD, found, _⟩ := any_some T.hd
    refine Bool.eq_false_iff.mpr fun q => ?_
    obtain rfl : D = tp := Value.ref.inj (beq_iff_eq.mp q)
    unfold clsIn at found
    split at found
    · rename_i c' d' cd' sl' there
      cases (X _ _ there).symm.trans tup
    · cases found
  ca := fun X I fin => classOf T X I fin
end
end SqX
namespace Sq
open PySem PySem.Spec PyProof.Rows L2
theorem kit_own {K : PySem.W.Frag} {C D : Addr} {b : Bool} (h1 : PySem.W.isClsIn K D = true) (h2 : PySem.W.typeIn K (.ref D) = some (.type "type")) (h3 : PySem.W.subIn K (.ref C) (.ref D) = some b) (h4 : C = D → b = true) : PySem.W.kitOne K (.ref C) (.ref D) = some b := by
  unfold PySem.W.kitOne
  by_cases e : C = D
  · subst e
    rw [if_pos (by simp), h4 rfl]
  · rw [if_neg (by simpa using e)]
    show (if ((PySem.W.clsIn K D).isSome && PySem.W.typeIn K (.ref D) == some (.type "type")) = true then PySem.W.subIn K (.ref C) (.ref D) else none) = some b
    have h1' : (PySem.W.clsIn K D).isSome = true := h1
    rw [h1', h2, if_pos (by rfl)]
    exact h3
theorem kit_base {K : PySem.W.Frag} {C : Addr} {T : String} {b : Bool} (h1 : PySem.W.kitMeta T = true) (h3 : PySem.W.subIn K (.ref C) (.type T) = some b) : PySem.W.kitOne K (.ref C) (.type T) = some b := by
  unfold PySem.W.kitOne
  rw [if_neg (by simp)]
  show (if PySem.W.kitMeta T = true then PySem.W.subIn K (.ref C) (.type T) else none) = some b
  rw [if_pos h1]
  exact h3
def rIsiE (K : PySem.W.Frag) : List V → Hp → VK → Prop := fun xs H Q => ∃ (a d C : Addr) (v c : V) (u : Value) (b : Bool), xs = [.ref a, c] ∧ ClsV c u ∧ ErrAt H a d C v ∧ ExcC K C ∧ PySem.W.kitOne K (.ref C) u = some b ∧ Q (.bl b) H
section
variable {X : Cx}
theorem call_isiE : CallR X (.builtin "isinstance") (rIsiE X.K) := by
  intro pins s σ H xs us Q I r h
  obtain ⟨a, d, C, v, c, u, b, rfl, k, at_, T, e, q⟩ := h
  obtain ⟨u1, u2, rfl, r1, r2⟩ := vals2 r
  obtain rfl := k.eq r2
  obtain rfl : u1 = Value.ref a := r1
  obtain ⟨t1, ho⟩ := exo_at I.hok at_.1
  obtain ⟨mA, hns, _⟩ := exd_at I.hok at_.2
  obtain ⟨od, hod, _⟩ := lookIn_ns hns
  have J : PySem.W.InstAt s.heap a _ C (some od) := ⟨ho, rfl, rfl, hod⟩
  exact PySem.W.kia_one (SqX.kit (ox := _) (od := some od) T) I.kIn J e (fun z => nomatch z) fun tk => ⟨.bl b, H, I.tok tk, rfl, q⟩
/-- error.value -/
def tErrV (K : PySem.W.Frag) (te : TE) : TE := fun σ H Q => te σ H fun x H1 => ∃ (a d C : Addr) (v : V), x = .ref a ∧ ErrAt H1 a d C v ∧ XfC K C ∧ PySem.W.findIn K (.ref C) "value" = some none ∧ Q v H1
theorem pe_errV {e : Expr} {te : TE} {pos : Pos} (he : PE X e te) (hb : attributeBase e "value" X.env (eval e X.env) = eval e X.env := by rfl) : PE X (.Attribute e "value" pos) (tErrV X.K te) := by
  refine ⟨fun pins s σ H Q I h => ?_⟩
  refine attr_of hb (thn (he.run pins s σ H _ I h) fun u s1 hh => ?_)
  obtain ⟨x, H1, I1, rx, a, d, C, v, ex, at_, T, hno, q⟩ := hh
  subst ex
  obtain rfl : u = Value.ref a := rx
  obtain ⟨t1, ho⟩ := exo_at I1.hok at_.1
  obtain ⟨mA, hns, hr⟩ := exd_at I1.hok at_.2
  obtain ⟨od, hod, hl⟩ := lookIn_ns hns
  have l : List.lookup ("value" : Str) [(("value" : Str), v)] = some v := by simp [List.lookup]
  obtain ⟨u, hu, ru⟩ := RelO.some_of (v := v) (o := mA "value") (by rw [← l]; exact hr "value")
  have J : PySem.W.InstAt s1.heap a _ C (some od) := ⟨ho, rfl, rfl, hod⟩
  exact HandSPX.exc_get I1.kIn J T.ga T.gg T.exC (PySem.W.findObj_own T.hdC hno rfl (by rw [hl, hu])) (handed_of ru) ⟨v, H1, I1.tok _, ru, q⟩
end
end Sq

set_option Elab.async false
set_option linter.all false
set_option maxRecDepth 100000
set_option maxHeartbeats 2000000
/-! Own errors raised; a caught one kept behind its suite. -/
namespace Sq
open PySem PySem.Spec PyProof.Rows L2
/-- an error that was raised: its class and its dict are known -/
def exq (a C : Addr) (d : Option Addr) : HO := .ext fun h => ∃ (oe : Obj) (vs : Array Value), h.get? a = some oe ∧ Zc (.ref C) d oe ∧ oe.data = .fields vs
theorem exq_ok {P : Program} {w : World} {H : Hp} {h : Heap} {a C : Addr} {d : Option Addr} {oe : Obj} {vs : Array Value} (e : h.get? a = some oe) (z : Zc (.ref C) d oe) (hd : oe.data = .fields vs) : ObjOk P w H h a (exq a C d) :=
  ⟨⟨oe, vs, e, z, hd⟩, ⟨oe, e⟩, fun _ _ ⟨o, v, q, r⟩ k => ⟨o, v, k o q, r⟩⟩
theorem exq_at {P : Program} {w : World} {H : Hp} {h : Heap} {a C : Addr} {d : Option Addr} (hok : HOk P w H h) (e : H a = some (exq a C d)) : ∃ (oe : Obj) (vs : Array Value), h.get? a = some oe ∧ Zc (.ref C) d oe ∧ oe.data = .fields vs := by
  have x : ObjOk P w H h a (.ext fun h => ∃ (oe : Obj) (vs : Array Value), h.get? a = some oe ∧ Zc (.ref C) d oe ∧ oe.data = .fields vs) := hok a _ e
  exact x.1
section
variable {X : Cx} {pins : List (Addr × Obj)} {σ : L2.St} {H : Hp} {s : Shared}
/-- an object that came into being since the entry is tracked from now on -/
theorem tracked {a C : Addr} {d : Option Addr} {oe : Obj} {vs : Array Value} (I : Inv X pins σ H s) (na : H a = none) (n0 : X.s_0.heap.get? a = none) (e : s.heap.get? a = some oe) (z : Zc (.ref C) d oe) (hd : oe.data = .fields vs)
    (hp : ∀ p ∈ X.pn ++ pins, p.1 ≠ a) (nL : a ≠ X.env.locals) : Inv X pins σ (upd H a (exq a C d)) s := by
  refine ⟨I.ok, I.os, I.bare, ⟨I.base.keep, I.base.slot, fun b o q n hx => ?_, I.base.there, fun b xs q => ?_, fun b o xs q => ?_, fun b ps q => ?_⟩, I.loc, I.cell, ?_, fun x c q => ?_, fun p q => ?_, fun b u q => ?_, I.len⟩
  · rw [upd_ne (fun z => by rw [z, n0] at q; cases q)]
    exact I.base.free b o q n hx
  · have y := I.base.tups b xs q
    rw [upd_ne (ne_of_none y na)]
    exact y
  · have y := I.base.frzs b o xs q
    rw [upd_ne (ne_of_none y na)]
    exact y
  · obtain ⟨m, y⟩ := I.base.tbls b ps q
    exact ⟨m, by rw [upd_ne (ne_of_none y na)]; exact y⟩
  · rw [upd_ne (Ne.symm nL)]
    exact I.free
  · obtain ⟨v, o, ho, hv⟩ := I.cell x c q
    have ne : c ≠ a := fun z => by
      rw [z, e] at ho
      cases ho
      rw [hd] at hv
      cases hv
    rw [upd_ne ne]
    exact I.freeC x c q
  · obtain ⟨y1, y2, y3, y4, y5⟩ := I.pin p q
    exact ⟨y1, by rw [upd_ne (hp p q)]; exact y2, y3, y4, y5⟩
  · by_cases hb : b = a
    · subst hb
      rw [upd_same] at q
      cases q
      exact exq_ok e z hd
    · rw [upd_ne hb] at q
      exact (I.hok b u q).stay (fun _ _ _ y => y) (fun c y => by rw [upd_ne (ne_of_none y na)]; exact y) fun c xs y => by rw [upd_ne (ne_of_none y na)]; exact y
/-- the name of an except clause goes; all but the frame's own record stands -/
theorem gone_stays {M : Model} {A : Around} {E : Value → Shared → Prop} {i : Nat} {n : Str} {pos : Pos} {Q : Unit → Shared → Prop} (I : Inv X pins σ H s) (hN : X.N.Nodup) (hi : X.N[i]? = some n) (hl : X.env.kindOf n = some .local)
    (h : ∀ s', Inv X pins (σ.set i none) H s' → (∀ b o, b ≠ X.env.locals → s.heap.get? b = some o → s'.heap.get? b = some o) → Q () s') : wpAny M A (do bindName X.env n .none; unbindBehindTheSuite X.env n pos) Q E s := by
  obtain ⟨spaces, there, held⟩ := id I.loc
  have plain : (X.env.scope.kind == .class || (X.env.scope.kind == .module && X.env.locals != X.env.globals)) = false := by
    rw [I.ok.kind]
    rfl
  have older : ∀ b o, X.s_0.heap.get? b = some o → b ≠ X.env.locals := fun b o e => Nat.ne_of_lt (Nat.lt_of_lt_of_le (Heap.lt_size e) I.ok.above)
  refine wpAny_nameGoes_keeps hl there plain fun h2 v there2 but => h _ ?_ fun b o nb e => (but.2 b nb).trans e
  have base2 : Un X.fs X.ex X.H_0 H X.s_0.heap h2 := {
    keep := fun b o e n hb hx => (but.2 b (older b o e)).trans (I.base.keep b o e n hb hx)
    slot := fun b o e n hb hx => let ⟨sl, y⟩ := I.base.slot b o e n hb hx; ⟨sl, (but.2 b (older b o e)).trans y⟩
    free := I.base.free
    there := fun b o e hx => let ⟨o', y⟩ := I.base.there b o e hx; ⟨o', (but.2 b (older b o e)).trans y⟩
    tups := I.base.tups
    frzs := I.base.frzs
    tbls := I.base.tbls }
  have cells2 : ∀ y c, X.env.cells.lookup y = some c → ∃ w', h2.IsCell c w' := fun y c e => let ⟨w', z⟩ := I.cell y c e; ⟨w', z.sameBut but (I.cne y c e)⟩
  refine ⟨I.ok, I.os, I.bare, base2, ⟨_, there2, fun j y v' at_ val vis => ?_⟩, cells2, I.free, I.freeC, fun q hq => ?_, fun b ob eb => ?_, by simpa using I.len⟩
  · by_cases same : j = i
    · exfalso
      subst same
      rw [List.getElem?_set] at val
      split at val
      · split at val <;> cases val
      · rename_i z
        exact z rfl
    · rw [List.getElem?_set_ne (Ne.symm same)] at val
      obtain ⟨u', rel, place⟩ := held j y v' at_ val vis
      refine ⟨u', rel, place.elim (fun ⟨k, e⟩ => .inl ⟨k, ?_⟩) fun ⟨k, c, e, z⟩ => .inr ⟨k, c, e, z.sameBut but (I.cne y c e)⟩⟩
      have other : y ≠ n := fun e => same (nodup_ix hN at_ (e ▸ hi))
      exact (if_neg other).trans e
  · obtain ⟨y1, y2, y3, y4, y5⟩ := I.pin q hq
    exact ⟨(but.2 q.1 y3).trans y1, y2, y3, y4, y5⟩
  · refine (I.hok b ob eb).stay (fun c w' hc z => (but.2 c fun isL => ?_).trans z) (fun _ z => z) fun _ _ z => z
    subst isL
    rcases hc with hc | hc
    · rw [← hc, I.free] at eb
      cases eb
    · rw [I.free] at hc
      cases hc
/-- raise X(e): what is made -/
theorem pmk_er {C fI : Addr} {q : Str} {e : Expr} {te : TE} {x : Str} {p pos : Pos} {k : Nat} (T : SqX.Er X.K X.prog C fI q) (gC : X.mg x = some (.ref C)) (hr : Room k X.A) (hg : Gl X x) (he : PE X e te)
    (hs : starEach [e] X.env = (false, eval e X.env) :: starEach [] X.env := by rfl) (hdb : (x == ("__debug__" : Str)) = false := by decide) :
    PMk X (.Call (.Name x p) [e] [] pos) (fun σ H Q => te σ H fun v H1 => ∀ d, H1 d = none → Q (.ref C) (some d) (upd H1 d (exd d [(("value" : Str), v)]))) := by
  intro pins s σ H Q I h
  refine wpAny_Call_Name_kw (ld_glob I hg gC ?_ hdb)
  refine PySem.W.callWith_K (h₀ := X.base) I.ok.mod.kin T.kC ?_ hs (by rfl)
  rw [hs]
  show wpAny _ _ (spliced ((false, eval e X.env) :: backTo pos (starEach [] X.env))) _ _ s
  refine Calls.spliced_cons (thn (he.run pins s σ H _ I h) fun u s1 hh => ?_)
  obtain ⟨v, H1, I1, r1, q1⟩ := hh
  refine Calls.spliced_nil ⟨I1.kIn, ?_⟩
  show wpAny _ _ (call (.ref C) [u]) _ _ _
  obtain ⟨mb, hb, boot⟩ := I1.ok.mod.blt
  refine wpAny_call (SqX.made T I1.kIn (I1.ok.mod.glob.keeps I1.bk) I1.nolimit (hb.keeps I1.bk) boot (by have := hr.dp; omega) fun h' tk a d t1 M => ?_)
  have na : H1 a = none := I1.hok.fresh M.big
  have nd : H1 d = none := I1.hok.fresh M.dbig
  obtain ⟨G, g1, g2⟩ := restrict h' fun b => decide (b ≠ a)
  have gk : ∀ b, b ≠ a → G.get? b = h'.get? b := fun b hb => g1 b (decide_eq_true hb)
  have ga : G.get? a = none := g2 a (by simp)
  have old : ∀ b o, s1.heap.get? b = some o → G.get? b = some o := fun b o z => (gk b (Nat.ne_of_lt (Nat.lt_of_lt_of_le (Heap.lt_size z) M.big))).trans (M.keep b o z)
  have nsG : G.Ns1 d (fun y => if y = "value" then some u else none) := M.ns.at fun o z => (gk d M.dne).trans z
  have rel : ∀ f, RelO (List.lookup f [(("value" : Str), v)]) (if f = "value" then some u else none) := relO_put (fs := []) (mA := fun _ => none) r1 fun g => True.intro
  have J : Inv X pins σ (upd H1 d (exd d [(("value" : Str), v)])) { s1 with heap := G, toks := tk } := I1.laid (t' := tk) old M.dbig (exd_ok nsG rel)
  refine ⟨a, _, _, { s1 with heap := G, toks := tk }, _, .ref C, some d, rfl, J, fun b o z => ?_, ga, M.obj, ⟨rfl, rfl⟩, rfl, rfl, by rw [upd_ne (Ne.symm M.dne)]; exact na, rfl, I1.bare, raises_own T.exC T.tyC, q1 d nd⟩
  by_cases hb : b = a
  · rw [hb, ga] at z
    cases z
  · rw [← gk b hb]
    exact z
end
end Sq

set_option Elab.async false
set_option linter.all false
set_option maxRecDepth 100000
set_option maxHeartbeats 4000000
/-! try: .. except X as n: suite, where the caught error is still known behind it. -/
namespace Sq
open PySem PySem.Spec PyProof.Rows L2
/-- what the clause wishes of an error of the body; behind the suite the error stands at its place -/
def wKeep (K : PySem.W.Frag) (c : Value) (i : Nat) (ts : Addr → Value → Option Addr → TS) (Wout : WX) (D : Ends) : WX := fun cls d σ H =>
  ∃ b, PySem.W.exmOne K cls c = some b ∧
    (b = true → ∃ C, cls = .ref C ∧ ∀ a, H a = none → ts a cls d { nx := fun σ' H' => D.nx (σ'.set i none) (upd H' a (exq a C d)), rt := fun v H' => D.rt v (upd H' a (exq a C d)), bk := fun σ' H' => D.bk (σ'.set i none) (upd H' a (exq a C d)), ct := fun σ' H' => D.ct (σ'.set i none) (upd H' a (exq a C d)) } (σ.set i (some (.ref a))) H) ∧
    (b = false → Wout cls d σ H)
section
variable {X : Cx} {x n : Str} {c : Value} {i : Nat} {body suite : List Stmt} {b₀ : Stmt} {np pos pos' : Pos} {tb : WX → TS} {ts : Addr → Value → Option Addr → TS} {Wout : WX}
theorem ps_try_keep (stack : X.stack = X.env :: X.outer) (frame : X.env.frame = some X.env.locals) (noex : X.ex = []) (nodup : X.N.Nodup) (slot : X.N[i]? = some n) (isLocal : X.env.kindOf n = some .local) (named : Names X x c) (takes : Takes X Wout)
    (tried : ∀ (W : WX) (pn : List (Addr × Obj)) (xe : Value → Shared → Prop), Takes (X.tr pn xe) W → PassesOwn (model X.prog X.w) X.A X.env xe → PSs (X.tr pn xe) body (tb W))
    (caught : ∀ (a : Addr) (oe : Obj) (cls : Value) (d : Option Addr) (pn : List (Addr × Obj)), Zc cls d oe → (∃ vs, oe.data = .fields vs) → PSs (X.suite a ((a, oe) :: pn)) (b₀ :: suite) (ts a cls d)) :
    PS X (.Try body [.ExceptHandler (some (.Name x np)) (some n) (b₀ :: suite) pos'] [] [] pos) (fun D σ H => tb (wKeep X.K c i ts Wout D) D σ H) := by
  refine ⟨fun pins s σ H D I h => ?_⟩
  have ok := I.ok
  have frames : X.A.frames = some (X.env :: X.outer) := by rw [ok.frames, stack]
  refine wpAny_Try_except (wpAny_mono ((tried (wKeep X.K c i ts Wout D) (X.pn ++ pins) (fun e s₁ => wpAny (model X.prog X.w) X.A (noteFrame e X.env) (fun _ s₂ => wpAny (model X.prog X.w) X.A (setFlight e none) (fun _ s₃ =>
    wpAny (model X.prog X.w) X.A (handleBy e X.env [.ExceptHandler (some (.Name x np)) (some n) (b₀ :: suite) pos']) (SP X pins D) X.xe s₃) X.xe s₂) X.xe s₁) (fun u s' air => ?_) PassesOwn.looking).run [] s σ H D (I.toTry _) h) (fun f s1 done => ?_) (fun e s1 he => he))
  · obtain ⟨a, B, sI, pins2, σ2, H2, cls, d, rfl, J', ground, upto, sky, na, os, ag, b, match_, yes, no⟩ := air
    have J : Inv X pins σ2 H2 sI := J'.ofTry ok
    have sky2 : Sky B (X.env :: X.outer) a (Zc cls d) X.env.locals s'.heap := by
      rw [← stack]
      exact sky
    refine Sky.land Zc.steady frames frame sky2 fun h3 fl3 up3 => ?_
    have J3 : Inv X pins σ2 H2 { s' with heap := h3 } := J.landed ground fl3.1 (upto.trans up3) os ag
    obtain ⟨oe3, vs3, he3, hz3, hd3⟩ := fl3.there
    have noFrame : a ∉ frs (X.env :: X.outer) := fun hm => by
      obtain ⟨_, o', e', hnf⟩ := fl3.2.2.1.mem hm
      rw [he3] at e'
      cases e'
      exact hnf _ hd3
    have nL : a ≠ X.env.locals := fun z => noFrame (List.mem_filterMap.mpr ⟨X.env, List.mem_cons_self, by rw [frame, z]⟩)
    have nF : a ∉ X.fs := fun hm => by
      obtain ⟨e, he, q⟩ := List.mem_filterMap.mp hm
      exact noFrame (List.mem_filterMap.mpr ⟨e, List.mem_cons_of_mem _ he, q⟩)
    -- the error is younger than all that stood at the entry, and no pin
    have newI : sI.heap.get? a = none := by
      cases e : sI.heap.get? a with
      | none => rfl
      | some o =>
        have z := ground a o e (by rw [stack]; exact noFrame)
        rw [fl3.2.1] at z
        cases z
    have new0 : X.s_0.heap.get? a = none := by
      cases e : X.s_0.heap.get? a with
      | none => rfl
      | some o =>
        obtain ⟨o', z⟩ := J.base.there a o e (by rw [noex]; exact fun z => nomatch z)
        rw [newI] at z
        cases z
    have noPin : ∀ q ∈ X.pn ++ pins, q.1 ≠ a := fun q hq z => by
      have y := (J.pin q hq).1
      rw [z, newI] at y
      cases y
    have S3 := J3.suite he3 hd3 na nL nF
    refine wpAny_handleBy_cons (codeAny_handlers_test ?_) (by intro q; cases q)
    have LT : PySem.W.Looks (model X.prog X.w) h3 (typeOf (.ref a)) cls := fun A Q E s k q => wpAny_typeOf_ref (k _ _ he3) (by rw [hz3.1]; exact q)
    have LM := PySem.W.exm_one (M := model X.prog X.w) (J3.kIn) LT match_
    have test : ∀ {Q : Value → Shared → Prop} {E : Value → Shared → Prop}, Q c { s' with heap := h3 } → wpAny (model X.prog X.w) (X.A.mark (some (.ref a))) (eval (.Name x np) X.env) Q E { s' with heap := h3 } := fun {Q E} q => by
      obtain ⟨hg, hdbg, hm | ⟨hm, hv, hnn⟩⟩ := named
      · exact ld_glob (X := X.suite a ((a, oe3) :: (X.pn ++ pins))) S3 hg hm q hdbg
      · exact ld_blt (X := X.suite a ((a, oe3) :: (X.pn ++ pins))) S3 hg hm hv q hnn hdbg
    refine test (LM.here ?_)
    cases b with
    | true =>
      obtain ⟨C, rfl, yes⟩ := yes rfl
      refine codeAny_handlers_suite_as ?_
      refine HandSPX.lands_againZ fl3 fun h4 fl4 up4 => ?_
      have J4 : Inv X pins σ2 H2 { s' with heap := h4 } := J.landed ground fl4.1 ((upto.trans up3).trans up4) os ag
      obtain ⟨oe4, vs4, he4, hz4, hd4⟩ := fl4.there
      have S4 := J4.suite he4 hd4 na nL nF
      refine store_ok (X := X.suite a ((a, oe4) :: (X.pn ++ pins))) (v := .ref a) S4 nodup slot (.inl isLocal) rfl (fun s5 S5 => ?_) (.inr isLocal)
      refine wpAny_mono ((caught a oe4 (.ref C) d (X.pn ++ pins) hz4 ⟨_, hd4⟩).run [] s5 _ H2 _ S5 (yes a na)) (fun f s6 after => ?_) (fun _ _ z => False.elim z)
      have leave : ∀ {σ6 : L2.St} {H6 : Hp} {Q : Shared → Prop}, Inv (X.suite a ((a, oe4) :: (X.pn ++ pins))) [] σ6 H6 s6 → (∀ s7, Inv X pins (σ6.set i none) (upd H6 a (exq a C d)) s7 → Q s7) →
          wpAny (model X.prog X.w) X.A (do bindName X.env n .none; unbindBehindTheSuite X.env n pos') (fun _ s7 => Q s7) X.xe s6 := fun {σ6 H6 Q} S6 hq => by
        obtain ⟨p1, p2, _⟩ := S6.pin (a, oe4) (List.mem_append_left _ List.mem_cons_self)
        exact gone_stays (S6.unsuite ok) nodup slot isLocal fun s7 J7 stays => hq s7 (tracked J7 p2 new0 (stays a oe4 nL p1) hz4 hd4 noPin nL)
      cases f with
      | next =>
        obtain ⟨σ6, H6, S6, q6⟩ := after
        exact leave S6 fun s7 J7 => ⟨_, _, J7, q6⟩
      | brk =>
        obtain ⟨σ6, H6, S6, q6⟩ := after
        exact leave S6 fun s7 J7 => ⟨_, _, J7, q6⟩
      | cont =>
        obtain ⟨σ6, H6, S6, q6⟩ := after
        exact leave S6 fun s7 J7 => ⟨_, _, J7, q6⟩
      | ret u =>
        obtain ⟨v6, σ6, H6, S6, r6, q6⟩ := after
        exact leave S6 fun s7 J7 => ⟨_, _, _, J7, r6, q6⟩
    | false =>
      show wpAny _ X.A (handleBy (.ref a) X.env []) _ _ _
      refine wpAny_handleBy_nil ?_
      obtain ⟨k1, k2, k3, oe, vs, T, oT, ts', he, hz, hd, h1, rest⟩ := id fl3
      unfold PySem.passOn
      refine wpAny_bind (wpAny_field he hd h1 ?_)
      rw [if_neg (show ¬ ((Value.ref T == Value.none) = true) from by simp)]
      have fin : wpAny (model X.prog X.w) X.A (setFlight (.ref a) X.env.frame) (fun _ s4 => wpAny (model X.prog X.w) X.A (throw (.ref a) : Sem Flow) (SP X pins D) X.xe s4) X.xe { s' with heap := h3 } := by
        rw [frame]
        refine HandSPX.setFlight_upZ fl3 fun h4 hh4 up4 => wpAny_throw (takes _ _ ?_)
        exact ⟨a, B, sI, pins, σ2, H2, cls, d, rfl, J, ground, (upto.trans up3).trans up4, .inr (.inr (by rw [stack]; exact hh4)), na, os, ag, no rfl⟩
      first
        | exact wpAny_bind (wpAny_pure (wpAny_bind fin))
        | exact wpAny_bind fin
  · cases f with
    | next =>
      obtain ⟨σ2, H2, J', q⟩ := done
      exact wpAny_execs_nil ⟨σ2, H2, J'.ofTry ok, q⟩
    | brk =>
      obtain ⟨σ2, H2, J', q⟩ := done
      exact ⟨σ2, H2, J'.ofTry ok, q⟩
    | cont =>
      obtain ⟨σ2, H2, J', q⟩ := done
      exact ⟨σ2, H2, J'.ofTry ok, q⟩
    | ret u =>
      obtain ⟨v, σ2, H2, J', r, q⟩ := done
      exact ⟨v, σ2, H2, J'.ofTry ok, r, q⟩
end
/-! ### what is asked of a caught error -/
/-- an error of the class at C was caught at a, its dict at d; it holds v -/
def CaughtAt (H : Hp) (a d C : Addr) (v : V) : Prop := H a = some (exq a C (some d)) ∧ H d = some (exd d [(("value" : Str), v)])
theorem CaughtAt.same {H H' : Hp} {a d C : Addr} {v : V} (s : Same H H') (e : CaughtAt H a d C v) : CaughtAt H' a d C v := ⟨s _ _ e.1, s _ _ e.2⟩
theorem caught_obj {X : Cx} {pins : List (Addr × Obj)} {σ : L2.St} {H : Hp} {s : Shared} {a d C : Addr} {v : V} (I : Inv X pins σ H s) (e : CaughtAt H a d C v) :
    ∃ ox od u, PySem.W.InstAt s.heap a ox C (some od) ∧ PySem.W.lookIn "value" od = some (some u) ∧ RelV v u := by
  obtain ⟨oe, vs, ho, z, hd⟩ := exq_at I.hok e.1
  obtain ⟨mA, hns, hr⟩ := exd_at I.hok e.2
  obtain ⟨od, hod, hl⟩ := lookIn_ns hns
  have l : List.lookup ("value" : Str) [(("value" : Str), v)] = some v := by simp [List.lookup]
  obtain ⟨u, hu, ru⟩ := RelO.some_of (v := v) (o := mA "value") (by rw [← l]; exact hr "value")
  exact ⟨oe, od, u, ⟨ho, z.1, by unfold PySem.W.notCls; rw [hd] <;> rfl, by rw [z.2]; exact hod⟩, by rw [hl, hu], ru⟩
end Sq
namespace Sq
open PySem PySem.Spec PyProof.Rows L2
section
variable {X : Cx}
def rIsiQ (K : PySem.W.Frag) : List V → Hp → VK → Prop := fun xs H Q => ∃ (a d C : Addr) (v c : V) (u : Value) (b : Bool), xs = [.ref a, c] ∧ ClsV c u ∧ CaughtAt H a d C v ∧ ExcC K C ∧ PySem.W.kitOne K (.ref C) u = some b ∧ Q (.bl b) H
theorem call_isiQ : CallR X (.builtin "isinstance") (rIsiQ X.K) := by
  intro pins s σ H xs us Q I r h
  obtain ⟨a, d, C, v, c, u, b, rfl, k, at_, T, e, q⟩ := h
  obtain ⟨u1, u2, rfl, r1, r2⟩ := vals2 r
  obtain rfl := k.eq r2
  obtain rfl : u1 = Value.ref a := r1
  obtain ⟨ox, od, uv, J, _, _⟩ := caught_obj I at_
  exact PySem.W.kia_one (SqX.kit (ox := ox) (od := some od) T) I.kIn J e (fun z => nomatch z) fun tk => ⟨.bl b, H, I.tok tk, rfl, q⟩
/-- isinstance(error, (X, Y)) -/
def rIsiQT (K : PySem.W.Frag) : List V → Hp → VK → Prop := fun xs H Q => ∃ (a d C tp : Addr) (v : V) (cs : List V) (us : List Value) (b : Bool), xs = [.ref a, .ref tp] ∧ H tp = some (.tup cs) ∧ Paired ClsV cs us ∧ CaughtAt H a d C v ∧ ExcC K C ∧ PySem.W.kitAny K (.ref C) us = some b ∧ Q (.bl b) H
theorem call_isiQT : CallR X (.builtin "isinstance") (rIsiQT X.K) := by
  intro pins s σ H xs vs Q I r h
  obtain ⟨a, d, C, tp, v, cs, us, b, rfl, ht, pc, at_, T, e, q⟩ := h
  obtain ⟨u1, u2, rfl, r1, r2⟩ := vals2 r
  obtain rfl : u1 = Value.ref a := r1
  obtain rfl : u2 = Value.ref tp := r2
  obtain ⟨ox, od, uv, J, _, _⟩ := caught_obj I at_
  obtain ⟨few, its, rv, ob, there, isT, n, data⟩ := (show ObjOk X.prog X.w H s.heap tp (.tup cs) from I.hok tp _ ht)
  have same := ClsV.all pc rv
  subst same
  obtain ⟨oc, dct, dt, sl⟩ := ob
  simp only at isT data
  subst isT data
  exact PySem.W.kia_tup (SqX.kit (ox := ox) (od := some od) T) I.kIn J there e (fun z => nomatch z) fun tk => ⟨.bl b, H, I.tok tk, rfl, q⟩
/-- error.value of a caught one -/
def tQv (K : PySem.W.Frag) (te : TE) : TE := fun σ H Q => te σ H fun x H1 => ∃ (a d C : Addr) (v : V), x = .ref a ∧ CaughtAt H1 a d C v ∧ XfC K C ∧ PySem.W.findIn K (.ref C) "value" = some none ∧ Q v H1
theorem pe_qv {e : Expr} {te : TE} {pos : Pos} (he : PE X e te) (hb : attributeBase e "value" X.env (eval e X.env) = eval e X.env := by rfl) : PE X (.Attribute e "value" pos) (tQv X.K te) := by
  refine ⟨fun pins s σ H Q I h => ?_⟩
  refine attr_of hb (thn (he.run pins s σ H _ I h) fun u s1 hh => ?_)
  obtain ⟨x, H1, I1, rx, a, d, C, v, ex, at_, T, hno, q⟩ := hh
  subst ex
  obtain rfl : u = Value.ref a := rx
  obtain ⟨ox, od, uv, J, l, ru⟩ := caught_obj I1 at_
  exact HandSPX.exc_get I1.kIn J T.ga T.gg T.exC (PySem.W.findObj_own T.hdC hno rfl l) (handed_of ru) ⟨v, H1, I1.tok _, ru, q⟩
end
end Sq

set_option Elab.async false
set_option linter.all false
set_option maxRecDepth 100000
set_option maxHeartbeats 2000000
/-! A walk that is left at its first item: for x in g(..): break. -/
namespace Sq
open PySem PySem.Spec PyProof.Rows L2 GenW
def Y1 (P : Program) (w : World) (outer : List Env) (H : Hp) (s : Shared) (a : Addr) (g : Nat) (q : V → Hp → Prop) : Protocol := fun _ _ v s1 _ =>
  s1.os = s.os ∧ AllBare s1.gens ∧ s1.heap.IsGen a g ∧ ∃ x H', Un (frs outer) [] H H' s.heap s1.heap ∧ HOk P w H' s1.heap ∧ RelV x v ∧ q x H'
def R1 (P : Program) (w : World) (outer : List Env) (H : Hp) (s : Shared) (a : Addr) (g : Nat) (E : XK) : GenEnd := fun _ _ r s1 => ∃ e, r = .error e ∧ CX P w outer H s E e s1 ∧ s1.heap.IsGen a g
/-- a generator that has not begun: its first item, or an error -/
def GFst (P : Program) (w : World) (k : Nat) (outer : List Env) (H : Hp) (s : Shared) (q : V → Hp → Prop) (E : XK) (u : Value) (s' : Shared) : Prop :=
  ∃ (a : Addr) (g : Nat) (c : Code), u = .ref a ∧ s.heap.objs.size ≤ a ∧ s'.heap.IsGen a g ∧ s'.gens[g]? = some (.fresh c) ∧ s'.os = s.os ∧ AllBare s'.gens ∧ s'.heap.NoLimit ∧ (∀ b o, s.heap.get? b = some o → s'.heap.get? b = some o) ∧
    ∀ (A : Around) (s2 : Shared), Room k A → A.frames = some outer → (∀ b o, s'.heap.get? b = some o → s2.heap.get? b = some o) → s2.os = s.os → AllBare s2.gens →
      Seg (model P w) A (R1 P w outer H s a g E) (Y1 P w outer H s a g q) 1 s2 c ((model P w).den c) [] s2
abbrev SpF := List V → Hp → (V → Hp → Prop) → XK → Prop
structure GFn1 (P : Program) (w : World) (K : PySem.W.Frag) (mg : Str → Option Value) (base : Heap) (k : Nat) (f : Addr) (fd : FuncData) (ps : List Str) (sp : SpF) : Prop where
  len : ∀ vs H Q E, sp vs H Q E → vs.length = ps.length
  run : ∀ (A : Around) (outer : List Env) (s : Shared) (H : Hp) (args : Args) (us : List Value) (vs : List V) (Q : V → Hp → Prop) (E : XK), Room k A → Env0 P w K mg base A outer s H → BindsTo s fd args (ps.zip us) → Vals vs us → sp vs H Q E →
    codeAny (model P w) A (.call (.ref f) args) (fun r s' => match r with | .ok (.ret u) => GFst P w k outer H s Q E u s' | _ => False) s
/-- two statements, then the first yield -/
theorem gfn1_of {P : Program} {w : World} {K : PySem.W.Frag} {mg : Str → Option Value} {base : Heap} {k : Nat} {f : Addr} {name qual : Str} {params : Arguments} {st1 st2 : Stmt} {ey : Expr} {yp ypos : Pos} {rest : List Stmt} {scope : Scope} {dV kV doc pm cdv ct oc : Value} {an od : Option Addr}
    {osl : Array (Option Value)} {N ps : List Str} {sp : SpF} (found : K.lookup f = some ⟨oc, od, .func (PySem.W.fnOf name qual params (st1 :: st2 :: .Expr (.Yield (some ey) yp) ypos :: rest) scope dV kV doc pm an cdv ct), osl⟩) (coded : PySem.W.codeIn K cdv qual = true) (S : GScope N ps scope)
    (len : ∀ vs H Q E, sp vs H Q E → vs.length = ps.length) (inter : ∀ n : Nat, interactive (envOfC qual scope n f cdv) = false)
    (inner : ∀ (A : Around) (outer : List Env) (s : Shared) (H : Hp) (vs : List V) (Q : V → Hp → Prop) (E : XK) (pn : List (Addr × Obj)), Room k (A.deeper (envOfC qual scope s.heap.objs.size f cdv)) → sp vs H Q E →
      ∃ t1 t2 te, PS (gcxOf P w K mg base N qual scope f cdv A outer s H E pn) st1 t1 ∧ PS (gcxOf P w K mg base N qual scope f cdv A outer s H E pn) st2 t2 ∧ PE (gcxOf P w K mg base N qual scope f cdv A outer s H E pn) ey te ∧
        t1 { nx := fun σ1 H1 => t2 { nx := fun σ2 H2 => te σ2 H2 Q, rt := fun _ _ => False } σ1 H1, rt := fun _ _ => False } (start N vs) H) :
    GFn1 P w K mg base (k + 1) f (PySem.W.fnOf name qual params (st1 :: st2 :: .Expr (.Yield (some ey) yp) ypos :: rest) scope dV kV doc pm an cdv ct) ps sp := by
  refine ⟨len, fun A outer s H args us vs Q E room e0 bound rel wish => ?_⟩
  have few := len _ _ _ _ wish
  have inK : K.In s.heap := e0.mod.kin.keeps fun b o e => (e0.bs b o e).1
  have noLim : s.heap.NoLimit := e0.mod.nolimit.keeps fun b o e => (e0.bs b o e).1
  have kinds : ∀ y ∈ ps.zip us, scope.names.lookup y.1 = some .local ∨ (scope.names.lookup y.1 = some .cell ∧ ((cellsFrom (s.heap.objs.size + 1) scope.names []).lookup y.1).isSome = true) := fun ⟨n, v⟩ hy =>
    (S.par n (List.of_mem_zip hy).1).elim .inl fun z => .inr ⟨z, PySem.W.cellsFrom_some _ _ _ (.inl z)⟩
  refine codeAny_call_generator room.depth (inK _ _ found) rfl S.co S.gen rfl (PySem.W.codeRec_of inK coded) (bound _ _ _ _ ?_)
  refine wpAny_newFunctionEnv_cells S.kind kinds fun env he s1 made => ?_
  subst he
  have lim1 : s1.heap.NoLimit := noLim.keeps made.toInCall.keep
  refine ⟨lim1, ?_⟩
  obtain ⟨h1, tk, es1, keep1⟩ := made.done
  have os1 : s1.os = s.os := by rw [es1]
  have gen1 : s1.gens = s.gens := by rw [es1]
  have lt1 : s.heap.objs.size < s1.heap.objs.size := made.toInCall.ns.lt
  have keepS : ∀ b o, s.heap.get? b = some o → s1.heap.get? b = some o := made.toInCall.keep
  suffices main : ∀ (go : Obj) (nm qn : Value) (tk2 : Nat), go.cls = .type "generator" → go.data = .fields #[.int s1.gens.size 0, nm, qn] → go.slots = #[] → (∀ h : Heap, (h.push go).get? h.objs.size = some go) →
      GFst P w (k + 1) outer H s Q E (.ref s1.heap.objs.size) { s1 with gens := s1.gens.push (.fresh (.func (st1 :: st2 :: .Expr (.Yield (some ey) yp) ypos :: rest) (envOfC qual scope s.heap.objs.size f cdv))), toks := tk2, heap := s1.heap.push go } from
    main _ _ _ _ rfl rfl rfl fun h => Heap.get?_push_size _ rfl
  intro go nm qn tk2 isG dataG slotsG pushG
  have isGen : ∀ h : Heap, h.get? s1.heap.objs.size = some go → h.IsGen s1.heap.objs.size s1.gens.size := fun h e => ⟨go, nm, qn, e, isG, dataG, slotsG⟩
  refine ⟨s1.heap.objs.size, s1.gens.size, _, rfl, Nat.le_of_lt lt1, isGen _ (pushG _), Array.getElem?_push_size .., os1, AllBare.push (by rw [gen1]; exact e0.bare) rfl, lim1.keeps fun b o e => Heap.get?_push_of_some _ e, fun b o e => Heap.get?_push_of_some _ (keepS b o e), ?_⟩
  intro Aw s2 roomW framesW keep2 os2 bare2
  have e0w : Env0 P w K mg base Aw outer s H := ⟨framesW, e0.mod, e0.bs, e0.bsz, e0.funs, e0.frf, e0.hok, e0.bare⟩
  obtain ⟨t1, t2, te, p1, p2, pe, reading⟩ := inner Aw outer s H vs Q E [(s1.heap.objs.size, go)] (roomW.deeper _) wish
  have I1 : Inv (gcxOf P w K mg base N qual scope f cdv Aw outer s H E []) [] (start N vs) H s1 := inv_startG S roomW.hd e0w few rel made
  have keep12 : ∀ b o, s1.heap.get? b = some o → s2.heap.get? b = some o := fun b o e => keep2 b o (Heap.get?_push_of_some _ e)
  have I2 : Inv (gcxOf P w K mg base N qual scope f cdv Aw outer s H E []) [] (start N vs) H s2 :=
    I1.call' (ch := []) (os2.trans os1.symm) (Un.kept keep12) (I1.hok.kept keep12) bare2 fun b z => by simp at z
  have thereG : s2.heap.get? s1.heap.objs.size = some go := keep2 s1.heap.objs.size go (pushG _)
  have I3 : Inv (gcxOf P w K mg base N qual scope f cdv Aw outer s H E [(s1.heap.objs.size, go)]) [] (start N vs) H s2 := Inv.pinnedG I2 fun p hp => by
    have hp' : p = (s1.heap.objs.size, go) := by simpa using hp
    rw [hp']
    exact ⟨thereG, I1.hok.fresh (Nat.le_refl _), Nat.ne_of_gt lt1, I1.nofs (Nat.le_refl _), fun v q => by rw [dataG] at q; cases q⟩
  have stillG : ∀ {σ' : L2.St} {H' : Hp} {s' : Shared}, Inv (gcxOf P w K mg base N qual scope f cdv Aw outer s H E [(s1.heap.objs.size, go)]) [] σ' H' s' → s'.heap.IsGen s1.heap.objs.size s1.gens.size := fun J =>
    isGen _ (J.pin (s1.heap.objs.size, go) (by simp [gcxOf])).1
  refine seg_func ?_
  have away : ∀ (n : Nat) (s₀ : Shared) (e : Value) (s' : Shared), (gcxOf P w K mg base N qual scope f cdv Aw outer s H E [(s1.heap.objs.size, go)]).xe e s' →
      Seg (model P w) Aw (R1 P w outer H s s1.heap.objs.size s1.gens.size E) (Y1 P w outer H s s1.heap.objs.size s1.gens.size Q) n s₀ (.func (st1 :: st2 :: .Expr (.Yield (some ey) yp) ypos :: rest) (envOfC qual scope s.heap.objs.size f cdv))
        ((leaving (envOfC qual scope s.heap.objs.size f cdv) e).wrap (fun _ => .raise e) .raise id id) [] s' := fun n s₀ e s' hx => by
    refine seg_wrap ?_
    rw [over_func]
    refine wpAny_mono (show wpAny (model P w) (Aw.deeper (envOfC qual scope s.heap.objs.size f cdv)) (leaving (envOfC qual scope s.heap.objs.size f cdv) e) (fun _ s'' => CX P w outer H s E e s'' ∧ ∀ p ∈ [(s1.heap.objs.size, go)], s''.heap.get? p.1 = some p.2) (fun _ _ => False) s' from hx) (fun _ s'' q => ?_) fun _ s'' q => q.elim
    exact seg_end (.error e) ⟨e, rfl, q.1, isGen _ (q.2 (s1.heap.objs.size, go) (List.mem_singleton.mpr rfl))⟩
  refine seg_execs_cons (seg_wrap ?_)
  rw [over_func]
  refine wpAny_mono (p1.run [] s2 (start N vs) H _ I3 reading) (fun fl s3 q3 => ?_) fun e s3 hx => away _ _ e s3 hx
  cases fl with
  | brk => exact q3.elim fun _ z => z.elim fun _ z => False.elim z.2
  | cont => exact q3.elim fun _ z => z.elim fun _ z => False.elim z.2
  | ret u => exact q3.elim fun _ z => z.elim fun _ z => z.elim fun _ z => False.elim z.2.2
  | next =>
    obtain ⟨σ3, H3, J3, r3⟩ := q3
    refine seg_execs_cons (seg_wrap ?_)
    rw [over_func]
    refine wpAny_mono (p2.run [] s3 σ3 H3 _ J3 r3) (fun fl s4 q4 => ?_) fun e s4 hx => away _ _ e s4 hx
    cases fl with
    | brk => exact q4.elim fun _ z => z.elim fun _ z => False.elim z.2
    | cont => exact q4.elim fun _ z => z.elim fun _ z => False.elim z.2
    | ret u => exact q4.elim fun _ z => z.elim fun _ z => z.elim fun _ z => False.elim z.2.2
    | next =>
      obtain ⟨σ4, H4, J4, r4⟩ := q4
      refine seg_execs_cons (seg_Expr_Yield rfl rfl rfl ?_ S.co (inter _))
      rw [over_func]
      refine wpAny_mono (pe.run [] s4 σ4 H4 _ J4 r4) (fun v s5 q5 => ?_) fun e s5 hx => away _ _ e s5 hx
      obtain ⟨x, H5, J5, rv, q⟩ := q5
      intro kap hk
      exact ⟨J5.os, J5.bare, stillG J5, x, H5, J5.base, J5.hok, rv, q⟩
end Sq
namespace Sq
open PySem PySem.Spec PyProof.Rows L2 GenW
/-- for x in g(e, ..): break -/
def tFirst (sp : SpF) (E : L2.St → XK) (t : TA) (i : Nat) : TS := fun D σ H => t σ H fun vs H1 => sp vs H1 (fun v H2 => D.nx (σ.set i (some v)) H2) (E σ)
section
variable {X : Cx} {k i : Nat} {f : Addr} {fd : FuncData} {ps : List Str} {sp : SpF} {E : L2.St → XK} {x y : Str} {p op bp cpos pos : Pos} {e : Expr} {es : List Expr} {t : TA}
theorem ps_first (F : GFn1 X.prog X.w X.K X.mg X.base k f fd ps sp) (hr : Room (k + 1) X.A) (hg : Gl X x) (hm : X.mg x = some (.ref f)) (hk : PySem.W.keepIn X.K (.ref f) = true) (hb : Binds X.K fd ps []) (ha : PA X (e :: es) t)
    (hx : ∀ σ, PassesAt (L2.CX X.prog X.w) X σ (E σ)) (ns : ∀ σ, NoStop X.K (E σ)) (own : PassesOwn (model X.prog X.w) X.A X.env X.xe) (hN : X.N.Nodup) (hi : X.N[i]? = some y) (hl : Loc X.env.scope y) (hfn : X.fn y = true ∨ X.env.scope.names.lookup y = some .local)
    (hdb : (x == ("__debug__" : Str)) = false := by decide) (he : starEach (e :: es) X.env = (false, eval e X.env) :: starEach es X.env := by rfl) (hpl : (backTo cpos (starEach es X.env)).any (·.1) = false := by rfl) :
    PS X (.For (.Name y op) (.Call (.Name x p) (e :: es) [] cpos) [.Break bp] [] pos) (tFirst sp E t i) := by
  refine ⟨fun pins s σ H D I h => ?_⟩
  refine wpAny_For (wpAny_Call_Name_kw (ld_glob I hg hm ?_ hdb)) (by intro _; rfl)
  refine PySem.W.callWith_K (h₀ := X.base) I.ok.mod.kin hk (thn (ha.run cpos pins s σ H _ I h) fun us s1 hh => ?_) he hpl
  obtain ⟨vs, H1, I1, r1, q⟩ := hh
  refine ⟨I1.kIn, ?_⟩
  have few : us.length = ps.length := by rw [← r1.length]; exact F.len _ _ _ _ q
  have bind := hb s1 us I1.kIn (by rw [List.append_nil]; exact few)
  rw [List.append_nil] at bind
  refine wpAny_call (codeAny_mono (F.run X.A X.stack s1 H1 ⟨us, []⟩ us vs _ (E σ) (hr.mono (by omega)) I1.env0 bind r1 q) fun r s2 hq => ?_)
  match r, hq with
  | .ok (.ret u), hq =>
    obtain ⟨a, g, c, rfl, ha1, isG, fresh, os2, bare2, lim2, keep2, wake⟩ := hq
    refine wpAny_pyIter_gen isG ?_
    refine codeAny_forLoop_any (fun n s' => s' = s2) (fun n s' hs => ?_) 0 rfl
    subst hs
    have seg := wake X.A.in1 (s'.setGen g .running) ⟨hr.hd, by have := hr.dp; show X.A.depth + 3 * k + 5 < _; omega, by have := hr.un; show X.A.units + 1 + 16 * k + 200 < _; omega⟩ I1.ok.frames (fun b o e => e) os2 (allBare_setGen bare2 rfl)
    have goes : (GenState.fresh c).Goes (model X.prog X.w) X.A.in1 (fun n s₀ r s₁ => ((r = .ok (.ret .none) ∨ r = .ok .next) ∧ False) ∨ ∃ e, r = .error e ∧ (CX X.prog X.w X.stack H1 s1 (E σ) e s₁ ∧ s₁.heap.IsGen a g)) (Y1 X.prog X.w X.stack H1 s1 a g (fun v H2 => D.nx (σ.set i (some v)) H2)) 1 (.send .none) (s'.setGen g .running) :=
      ⟨rfl, seg_imp (R := R1 X.prog X.w X.stack H1 s1 a g (E σ)) (Y := Y1 X.prog X.w X.stack H1 s1 a g (fun v H2 => D.nx (σ.set i (some v)) H2)) (fun n s₀ r s z => Or.inr z) (fun n s₀ v s kap kap' _ z => z) 1 seg⟩
    refine next_genG (A := X.A) (F := fun _ _ _ => False) hr.hd lim2 (by have := hr.dp; omega) isG fresh goes (fun v s₁ gs' bare' hv => ?_) (fun s₁ z => z.elim) fun er s₁ he => ?_
    · obtain ⟨os3, bare3, isG3, z, H3, un3, ok3, rv, qv⟩ := hv
      have I3 : Inv X pins σ H3 (s₁.setGen g gs') := I1.call' (ch := []) os3 un3 ok3 (allBare_setGen bare3 bare') fun b z => by simp at z
      refine wpAny_of_eq (rfl : letOwnedTupleGo (.Name y op) (.ref a) v = pure ()) ?_
      refine wpAny_passesOwn own (thn ((pg_name hN hi hl hfn).run pins _ σ H3 z v (fun σ2 H2 => D.nx σ2 H2) I3 rv qv) fun _ s4 h4 => ?_)
      obtain ⟨σ4, H4, I4, q4⟩ := h4
      exact wpAny_execs_cons (wpAny_Break ⟨σ4, H4, I4, q4⟩)
    · obtain ⟨hc, hg1⟩ := he
      have kin : X.K.In s₁.heap := by
        obtain ⟨b1, B, H2, cls, d, _, fl, _, ub, _⟩ := id hc
        refine I1.ok.mod.kin.keeps fun b o eb => fl.1 b o (ub.keep b o (I1.bs b o eb).1 (I1.bs b o eb).2 fun hm => ?_)
        rcases List.mem_cons.mp (I1.stkSub b hm) with z | z
        · have low := Heap.lt_size eb
          rw [z] at low
          exact absurd (Nat.lt_of_lt_of_le low (Nat.le_trans I1.ok.bsz I1.ok.above)) (Nat.lt_irrefl _)
        · exact I1.ok.nofr eb z
      refine ⟨hg1, notStop_of (ns σ) kin hc, own _ _ (hx σ pins H1 s1 er _ I1 ?_)⟩
      obtain ⟨b1, B, H2, cls, d, z1, fl, z2, ub, z3, z4, z5, z6⟩ := hc
      exact ⟨b1, B, H2, cls, d, z1, fl, z2, ub, z3, z4, allBare_setGen z5 rfl, z6⟩
end
end Sq

set_option Elab.async false
set_option linter.all false
set_option maxRecDepth 100000
set_option maxHeartbeats 2000000
/-! Calls that may raise. -/
namespace Sq
open PySem PySem.Spec PyProof.Rows L2
structure Dx (P : Program) (w : World) (K : PySem.W.Frag) (mg : Str → Option Value) (base : Heap) (k : Nat) (x : Str) (ps : List Str) (sp : Sp) : Prop where
  ex : ∃ f fd, FnOk P w K mg base (L2.CX P w) k f fd ps sp ∧ mg x = some (.ref f) ∧ PySem.W.keepIn K (.ref f) = true ∧ Binds K fd ps []
structure Dxk (P : Program) (w : World) (K : PySem.W.Frag) (mg : Str → Option Value) (base : Heap) (k : Nat) (x : Str) (ps ks : List Str) (g : List Value → List Value → List Value) (gV : List V → List V → List V) (sp : Sp) : Prop where
  ex : ∃ f fd, FnOk P w K mg base (L2.CX P w) k f fd ps sp ∧ mg x = some (.ref f) ∧ PySem.W.keepIn K (.ref f) = true ∧ KBn K fd ps 0 ks g gV
structure Dx1 (P : Program) (w : World) (K : PySem.W.Frag) (mg : Str → Option Value) (base : Heap) (k : Nat) (x : Str) (ps : List Str) (sp : SpF) : Prop where
  ex : ∃ f fd, GFn1 P w K mg base k f fd ps sp ∧ mg x = some (.ref f) ∧ PySem.W.keepIn K (.ref f) = true ∧ Binds K fd ps []
theorem Dx.mk' {P : Program} {w : World} {K : PySem.W.Frag} {mg : Str → Option Value} {base : Heap} {k : Nat} {x : Str} {st : Stmt} {ps : List Str} {sp : Sp} {f : Addr} {fd : FuncData} (F : Fun K x x st f fd) (G : FnOk P w K mg base (L2.CX P w) k f fd ps sp) (g : mg x = some (.ref f)) (b : Binds K fd ps []) : Dx P w K mg base k x ps sp :=
  ⟨⟨f, fd, G, g, F.kp, b⟩⟩
section
variable {P : Program} {w : World} {K : PySem.W.Frag} {mg : Str → Option Value} {base : Heap} {N : List Str} {qual : Str} {scope : Scope} {f : Addr} {cd : Value} {A : Around} {outer : List Env} {s : Shared} {H : Hp} {E : XK}
theorem takesX : Takes (cxOf (L2.CX P w) P w K mg base N qual scope f cd A outer s H E) (fun cls d _ H' => E cls d H') := takes_of rfl rfl rfl rfl
theorem ownsX : PassesOwn (model P w) (cxOf (L2.CX P w) P w K mg base N qual scope f cd A outer s H E).A (cxOf (L2.CX P w) P w K mg base N qual scope f cd A outer s H E).env (cxOf (L2.CX P w) P w K mg base N qual scope f cd A outer s H E).xe := passes_of rfl
end
section
variable {X : Cx} {k : Nat} {ps ks : List Str} {sp : Sp} {x : Str} {p pos : Pos} {e : Expr} {es : List Expr} {t tk : TA} {W : WX} {kws : List Keyword} {g : List Value → List Value → List Value} {gV : List V → List V → List V}
theorem pe_callX (D : Dx X.prog X.w X.K X.mg X.base k x ps sp) (takes : Takes X W) (hr : Room k X.A) (hg : Gl X x) (ha : PA X (e :: es) t) (hdb : (x == ("__debug__" : Str)) = false := by decide)
    (he : starEach (e :: es) X.env = (false, eval e X.env) :: starEach es X.env := by rfl) (hpl : (backTo pos (starEach es X.env)).any (·.1) = false := by rfl) :
    PE X (.Call (.Name x p) (e :: es) [] pos) (tCallS sp (WE W) t) := by
  obtain ⟨f, fd, F, g, kp, b⟩ := D.ex
  exact pe_callS F hr hg g kp b (passAt takes) ha hdb he hpl
/-- f(k = v, ..), which may raise -/
def tCallKX (n : Nat) (sp : Sp) (gV : List V → List V → List V) (E : L2.St → XK) (tk : TA) : TE := fun σ H Q => tk σ H fun zs H1 => zs.length = n ∧ sp (gV [] zs) H1 Q (E σ)
theorem pe_callXK (D : Dxk X.prog X.w X.K X.mg X.base k x ps ks g gV sp) (takes : Takes X W) (hr : Room k X.A) (hg : Gl X x) (hkw : PK X kws tk)
    (hall : (backToKw pos (keywordEach kws X.env)).all (·.1.isSome) = true := by rfl) (hks : (backToKw pos (keywordEach kws X.env)).filterMap (·.1) = ks := by rfl) (hdb : (x == ("__debug__" : Str)) = false := by decide)
    (hpl : ((backTo pos (starEach [] X.env)).any (·.1) || (backToKw pos (keywordEach kws X.env)).any (·.1.isNone)) = false := by rfl) :
    PE X (.Call (.Name x p) [] kws pos) (tCallKX ks.length sp gV (WE W) tk) := by
  obtain ⟨f, fd, F, hm, kp, hb⟩ := D.ex
  refine ⟨fun pins s σ H Q I h => ?_⟩
  refine wpAny_Call_Name_kw (ld_glob I hg hm ?_ hdb)
  refine PySem.W.callWith_KW0 (h₀ := X.base) I.ok.mod.kin kp hall ?_ hpl
  refine thn (hkw.run pos pins s σ H _ I h) ?_
  rintro ws s2 ⟨zs, H2, I2, rz, l2, q2⟩
  refine ⟨I2.kIn, ?_⟩
  rw [hks]
  have to := hb.to s2 [] ws I2.kIn rfl (rz.length.symm.trans l2)
  refine wpAny_call (codeAny_mono (F.run X.A X.stack s2 H2 ⟨[], ks.zip ws⟩ (g [] ws) (gV [] zs) Q (WE W σ) hr I2.env0 to (hb.rel .nil rz) q2) fun r s' hq => ?_)
  match r, hq with
  | .error u, hq => exact passAt takes σ pins H2 s2 u s' I2 hq
  | .ok (.ret u), hq => exact I2.after hq
end
/-- the same for a walk that is left at its first item -/
def EF (K : PySem.W.Frag) (W : WX) : L2.St → XK := fun σ cls d H => W cls d σ H ∧ PySem.W.subIn K cls (.type "StopIteration") = some false
section
variable {X : Cx} {k i : Nat} {ps : List Str} {sp : SpF} {x y : Str} {p op bp cpos pos : Pos} {e : Expr} {es : List Expr} {t : TA} {W : WX}
theorem ps_firstD {K0 : PySem.W.Frag} (sameK : X.K = K0) (D : Dx1 X.prog X.w X.K X.mg X.base k x ps sp) (takes : Takes X W) (hr : Room (k + 1) X.A) (hg : Gl X x) (ha : PA X (e :: es) t) (own : PassesOwn (model X.prog X.w) X.A X.env X.xe) (hN : X.N.Nodup) (hi : X.N[i]? = some y) (hl : Loc X.env.scope y)
    (hfn : X.fn y = true ∨ X.env.scope.names.lookup y = some .local) (hdb : (x == ("__debug__" : Str)) = false := by decide)
    (he : starEach (e :: es) X.env = (false, eval e X.env) :: starEach es X.env := by rfl) (hpl : (backTo cpos (starEach es X.env)).any (·.1) = false := by rfl) :
    PS X (.For (.Name y op) (.Call (.Name x p) (e :: es) [] cpos) [.Break bp] [] pos) (tFirst sp (EF K0 W) t i) := by
  obtain ⟨f, fd, F, g, kp, b⟩ := D.ex
  subst sameK
  exact ps_first (E := EF X.K W) F hr hg g kp b ha (fun σ pins H s e s' I c => passAt (W := fun cls d σ H => W cls d σ H ∧ PySem.W.subIn X.K cls (.type "StopIteration") = some false) (takes.imp fun _ _ _ _ z => z.1) σ pins H s e s' I c) (fun σ cls d H (z : EF X.K W σ cls d H) => z.2) own hN hi hl hfn hdb he hpl
end
/-- list.count(True) of bools -/
def rCountB (K : PySem.W.Frag) : V → List V → Hp → VK → Prop := fun x xs H Q => ∃ (p : Addr) (bs : List Bool) (k : Bool), x = .ref p ∧ xs = [.bl k] ∧ SqL K H p (bs.map V.bl) ∧ Q (.int (bs.count k : Nat)) H
theorem reads_bools : ∀ {bs : List Bool} {its : List Value} {hp : Heap}, Vals (bs.map V.bl) its → ∃ as, ReadsAll hp its (bs.map PyData.bool) as
  | [], _, _, r => by
    cases r
    exact ⟨_, ReadsAll.nil⟩
  | b :: bs, _, hp, r => by
    cases r with
    | cons r1 r2 =>
      rename_i u us
      obtain rfl : u = Value.bool b := r1
      obtain ⟨as, h⟩ := reads_bools (hp := hp) r2
      exact ⟨_, ReadsAll.cons (Reads.bool b) h⟩
theorem count_bools (k : Bool) : ∀ bs : List Bool, Spec.countIn (.bool k) (bs.map PyData.bool) = bs.count k
  | [] => rfl
  | b :: bs => by
    show (if Spec.same (.bool b) (.bool k) then 1 else 0) + Spec.countIn (.bool k) (bs.map PyData.bool) = ((b :: bs).count k : Nat)
    rw [count_bools k bs, List.count_cons]
    cases b <;> cases k <;> simp [Spec.same] <;> omega
theorem all_bools : ∀ bs : List Bool, (bs.map PyData.bool).all Shape.bool.has = true
  | [] => rfl
  | _ :: bs => all_bools bs
theorem mt_countB {X : Cx} : MtR X "list.count" (rCountB X.K) := by
  intro pins s σ H x xs v us Q I rx rxs h
  obtain ⟨p, bs, k, rfl, rfl, hs, q⟩ := h
  obtain rfl : v = Value.ref p := rx
  obtain ⟨u, rfl, ru⟩ := rxs.one
  obtain rfl : u = Value.bool k := ru
  obtain ⟨its, rv, hl, _⟩ := I.list hs
  obtain ⟨as, ra⟩ := reads_bools (hp := s.heap) rv
  refine count_list_bools hl.isList ra ?_ ⟨.int (bs.count k : Nat), H, I.tok _, ⟨s.toks, ?_⟩, q⟩
  · exact all_bools bs
  · rw [count_bools]
/-- what is wanted of an error of the class at C that holds v -/
def Wish (E : XK) (C : Addr) (v : V) (H : Hp) : Prop := ∀ d, H d = none → E (.ref C) (some d) (upd H d (exd d [(("value" : Str), v)]))
end Sq

set_option Elab.async false
set_option linter.all false
set_option maxRecDepth 100000
set_option maxHeartbeats 4000000
/-! A def called within an except suite: walks over lists, pairs unpacked, comprehensions, the handled error asked. -/
namespace Sq
open PySem PySem.Spec PyProof.Rows L2 HotX L2H
section
variable {prog : Program} {w : World} {A : Around} {E : Value → Shared → Prop} {s : Shared}
/-- the walk over a list ends while an error is handled -/
theorem list_end_hot {it l x1 : Addr} {i : Nat} {items : Array Value} {Q : Option Value → Shared → Prop} (hot : HotAt A x1 s.heap)
    (hit : s.heap.IsListIter it l i) (lenσ : s.heap.IsList l items) (gotX : items[i]? = none)
    (hQ : ∀ h', Heap.ExtBut it s.heap h' → Q none { s with heap := h' }) : wpAny (model prog w) A (pyNext (.ref it)) Q E s := by
  obtain ⟨o, ho, mood, hd⟩ := id hit
  obtain ⟨ol, hol, _, nl, hdl⟩ := lenσ
  obtain ⟨hh, o1, vsB, h1, d1, c1⟩ := hot
  by_cases n1 : x1 = it
  · exfalso
    subst n1
    rw [ho] at h1
    cases h1
    rw [hd] at d1
    cases d1
    cases c1
  have k1 : (s.heap.update it (Obj.mapFields (·.setIfInBounds 0 Value.none))).get? x1 = some o1 := (Heap.get?_update_other _ _ (Ne.symm n1)).trans h1
  unfold pyNext
  refine wpAny_bind (wpAny_attempt (wpAny_callSpecial?_slot (name := Str.ofString "__next__") hit.typeIs slot_listiter_next
    (wpAny_call_entry slot_listiter_next hit.typeIs entry_listiter_next ?_ (args_listiter_next _))))
  show wpAny _ _ (field (.ref it) 0 >>= _) _ _ s
  refine wpAny_bind (wpAny_field ho hd (x := .ref l) rfl ?_)
  show wpAny _ _ (if (Value.ref l == Value.none) = true then _ else _) _ _ s
  rw [if_neg (show ¬ ((Value.ref l == Value.none) = true) from Bool.false_ne_true)]
  show wpAny _ _ (field (.ref it) 1 >>= _) _ _ s
  refine wpAny_bind (wpAny_field ho hd (x := .int i 0) rfl ?_)
  show wpAny _ _ (seqItems? (.ref l) >>= _) _ _ s
  refine wpAny_bind (wpAny_seqItems hol hdl ?_)
  simp only [Int.toNat_natCast, gotX]
  refine wpAny_bind (wpAny_rule (wpAny_bind (wpAny_setField ho hd (by simp) ?_)))
  show wpAny _ _ (newExc (.type "StopIteration") [] >>= _) _ _ _
  refine wpAny_bind ?_
  simp only [newExc, newTuple]
  refine wpAny_bind (wpAny_newObj_type ?_ (by size_fits))
  refine wpAny_bind (m := firstArgMember _ _) (wpAny_of_eq (a := Value.none) (by first | rfl | (simp only [firstArgMember]; rfl)) ?_)
  refine wpAny_newObj_type ?_ (by size_fits)
  refine raiseNew_hot ⟨hh, o1, vsB, Heap.get?_push_of_some _ (Heap.get?_push_of_some _ k1), d1, c1⟩ (Nat.ne_of_lt (Heap.lt_size (Heap.get?_push_of_some _ k1))) (Heap.get?_push_size _ rfl) rfl (by first | (simp; done) | (simp; omega) | (simp only [Array.size_append]; simp; omega)) ?_
  refine wpAny_bind (wpAny_isInstance (T := "StopIteration") (b := true) ⟨_, Heap.get?_update_self _ (Heap.get?_push_size _ rfl) rfl, rfl⟩ isSubtype_stop ?_)
  refine wpAny_pure (hQ _ fun b o nb e => ?_)
  have e2 : (s.heap.update it (Obj.mapFields (·.setIfInBounds 0 Value.none))).get? b = some o := (Heap.get?_update_other _ _ (Ne.symm nb)).trans e
  rw [Heap.get?_update_other _ _ (Nat.ne_of_gt (Heap.lt_size (Heap.get?_push_of_some _ e2)))]
  exact Heap.get?_push_of_some _ (Heap.get?_push_of_some _ e2)
/-- the same of a pair -/
theorem tup_end_hot {it t x1 : Addr} {i : Nat} {items : Array Value} {Q : Option Value → Shared → Prop} (hot : HotAt A x1 s.heap)
    (hit : IsTupIter s.heap it t i) (testsA : IsTup s.heap t items) (gotX : items[i]? = none)
    (hQ : ∀ h', Heap.ExtBut it s.heap h' → Q none { s with heap := h' }) : wpAny (model prog w) A (pyNext (.ref it)) Q E s := by
  obtain ⟨o, ho, mood, hd⟩ := id hit
  obtain ⟨ol, hol, _, nl, hdl⟩ := testsA
  obtain ⟨hh, o1, vsB, h1, d1, c1⟩ := hot
  by_cases n1 : x1 = it
  · exfalso
    subst n1
    rw [ho] at h1
    cases h1
    rw [hd] at d1
    cases d1
    cases c1
  have k1 : (s.heap.update it (Obj.mapFields (·.setIfInBounds 0 Value.none))).get? x1 = some o1 := (Heap.get?_update_other _ _ (Ne.symm n1)).trans h1
  unfold pyNext
  refine wpAny_bind (wpAny_attempt (wpAny_callSpecial?_slot (name := Str.ofString "__next__") hit.typeIs slot_tupleiter_next
    (wpAny_call_entry slot_tupleiter_next hit.typeIs entry_tupleiter_next ?_ (args_tupleiter_next _))))
  show wpAny _ _ (field (.ref it) 0 >>= _) _ _ s
  refine wpAny_bind (wpAny_field ho hd (x := .ref t) rfl ?_)
  show wpAny _ _ (if (Value.ref t == Value.none) = true then _ else _) _ _ s
  rw [if_neg (show ¬ ((Value.ref t == Value.none) = true) from Bool.false_ne_true)]
  show wpAny _ _ (field (.ref it) 1 >>= _) _ _ s
  refine wpAny_bind (wpAny_field ho hd (x := .int i 0) rfl ?_)
  show wpAny _ _ (seqItems? (.ref t) >>= _) _ _ s
  refine wpAny_bind (wpAny_seqItems hol hdl ?_)
  simp only [Int.toNat_natCast, gotX]
  refine wpAny_bind (wpAny_rule (wpAny_bind (wpAny_setField ho hd (by simp) ?_)))
  show wpAny _ _ (newExc (.type "StopIteration") [] >>= _) _ _ _
  refine wpAny_bind ?_
  simp only [newExc, newTuple]
  refine wpAny_bind (wpAny_newObj_type ?_ (by size_fits))
  refine wpAny_bind (m := firstArgMember _ _) (wpAny_of_eq (a := Value.none) (by first | rfl | (simp only [firstArgMember]; rfl)) ?_)
  refine wpAny_newObj_type ?_ (by size_fits)
  refine raiseNew_hot ⟨hh, o1, vsB, Heap.get?_push_of_some _ (Heap.get?_push_of_some _ k1), d1, c1⟩ (Nat.ne_of_lt (Heap.lt_size (Heap.get?_push_of_some _ k1))) (Heap.get?_push_size _ rfl) rfl (by first | (simp; done) | (simp; omega) | (simp only [Array.size_append]; simp; omega)) ?_
  refine wpAny_bind (wpAny_isInstance (T := "StopIteration") (b := true) ⟨_, Heap.get?_update_self _ (Heap.get?_push_size _ rfl) rfl, rfl⟩ isSubtype_stop ?_)
  refine wpAny_pure (hQ _ fun b o nb e => ?_)
  have e2 : (s.heap.update it (Obj.mapFields (·.setIfInBounds 0 Value.none))).get? b = some o := (Heap.get?_update_other _ _ (Ne.symm nb)).trans e
  rw [Heap.get?_update_other _ _ (Nat.ne_of_gt (Heap.lt_size (Heap.get?_push_of_some _ e2)))]
  exact Heap.get?_push_of_some _ (Heap.get?_push_of_some _ e2)
theorem unpack_hot {t x1 : Addr} {items : Array Value} {Q : List Value → Shared → Prop} (hot : HotAt A x1 s.heap) (testsA : IsTup s.heap t items)
    (hQ : ∀ h', Heap.ExtBut s.heap.objs.size s.heap h' → Q items.toList { s with heap := h' }) : wpAny (model prog w) A (unpackItems (.ref t) items.size none) Q E s := by
  have hlt : t ≠ s.heap.objs.size := by obtain ⟨o, ho, _⟩ := testsA; exact Nat.ne_of_lt (Heap.lt_size ho)
  unfold unpackItems
  refine wpAny_bind ?_
  · unfold notIterableAtAll
    refine wpAny_bind (wpAny_specialOf testsA.typeIs slot_tuple_iter.lookup ?_)
    refine wpAny_pure ?_
    simp only [Bool.false_eq_true, if_false]
    refine wpAny_bind (wpAny_holding (iter_tuple testsA ?_))
    refine wpAny_bind (wpAny_holding (draw_tuple hlt items.size 0 _ _ ⟨_, Heap.get?_push_size _ rfl, rfl, rfl⟩ (testsA.push _) (by omega) fun h₁ hit₁ hs₁ => ?_))
    have hall : List.take items.size (List.drop 0 items.toList) = items.toList := by
      rw [List.drop_zero]; exact List.take_of_length_le (by simp)
    rw [hall]
    rw [if_neg (by simp)]
    have ht₁ : IsTup h₁ t items := (testsA.push _).extBut hs₁.extBut hlt
    have hot₁ : HotAt A x1 h₁ := by
      obtain ⟨hh, o1, vsB, h1, d1, c1⟩ := hot
      exact ⟨hh, o1, vsB, hs₁.extBut x1 o1 (Nat.ne_of_lt (Heap.lt_size h1)) (Heap.get?_push_of_some _ h1), d1, c1⟩
    refine wpAny_bind (wpAny_holding (tup_end_hot hot₁ hit₁ ht₁ (by simp) fun h₂ he₂ => ?_))
    simp only [Option.isSome_none, Bool.false_eq_true, if_false]
    refine wpAny_pure (hQ h₂ fun b o hb e => he₂ b o hb (hs₁.extBut b o hb (Heap.get?_push_of_some _ e)))
theorem assign_tup_hot {env : Env} {elts : List Expr} {k} {pos : Pos} {t x1 : Addr} {items : Array Value} {Q : Unit → Shared → Prop} (hot : HotAt A x1 s.heap) (testsA : IsTup s.heap t items)
    (nsC : (assignEach elts env).length = items.size) (hstar : (assignEach elts env).findIdx? (·.1) = none)
    (h : ∀ h', Heap.ExtBut s.heap.objs.size s.heap h' → wpAny (model prog w) A (assignInOrder ((assignEach elts env).map (·.2)) items.toList) Q E { s with heap := h' }) :
    wpAny (model prog w) A (assign (.Tuple elts k pos) env (.ref t)) Q E s := by
  rw [assign_Tuple]
  refine wpAny_bind (wpAny_standAt ?_)
  unfold unpack
  rw [nsC, hstar]
  exact wpAny_bind (wpAny_holding (unpack_hot hot testsA h))
end
/-! ### hot contexts -/
/-- wherever the context's invariant holds an error is handled whose context is None -/
def HotW (X : Cx) : Prop := ∀ (pins : List (Addr × Obj)) (σ : L2.St) (H : Hp) (s : Shared), Inv X pins σ H s → ∃ x1, HotAt X.A x1 s.heap
theorem HotC.w {X : Cx} (c : HotC X) : HotW X := fun _ _ _ _ I => c.at I
theorem hot_pgTup {X : Cx} {es : List Expr} {k : Nat} {t : TGs} {n : Nat} {pos : Pos} (mood : HotW X) (h : PGs X es t)
    (nsC : (assignEach es X.env).length = n := by rfl) (hst : (assignEach es X.env).findIdx? (·.1) = none := by rfl) : PG X (.Tuple es k pos) (gTup X.K n t) := by
  refine ⟨fun pins s σ H v u Q I r hw => ?_⟩
  obtain ⟨a, xs, eqB, hq, lenσ, hw⟩ := hw
  subst eqB
  cases r
  obtain ⟨its, rv, testsA, hz⟩ := I.tuple hq
  obtain ⟨x1, hot⟩ := mood _ _ _ _ I
  refine assign_tup_hot hot testsA (by simp [nsC, ← lenσ, rv.length]) hst fun h' gotX => ?_
  have I1 : Inv X pins σ H { s with heap := h' } := I.kept (t' := s.toks) fun b o e => gotX b o (Nat.ne_of_lt (Heap.lt_size e)) e
  exact h.run pins _ σ H xs _ Q I1 (by simpa using rv) hw
structure TurnW (P : Program) (w : World) (K : PySem.W.Frag) (tg : Expr) (J : It) (fp : List Addr) (it : Addr) (tn : Nat → Heap → Prop) : Prop where
  mem : it ∈ fp
  obj : ∀ i h, tn i h → ∀ b ∈ fp, ∃ o, h.get? b = some o ∧ ∀ v, o.data ≠ .cell v
  keep : ∀ i h h', tn i h → (∀ b ∈ fp, ∀ o, h.get? b = some o → h'.get? b = some o) → tn i h'
  item : ∀ (X : Cx), X.prog = P → X.w = w → X.K = K → HotW X → ∀ (i : Nat) (pins : List (Addr × Obj)) (s : Shared) (σ : L2.St) (H : Hp) (E : Value → Shared → Prop), Inv X pins σ H s → (∀ b ∈ fp, FpOk X pins H b) → tn i s.heap → J.go i H →
    wpAny (model P w) X.A (pyNext (.ref it)) (fun r sA => ∃ u, r = some u ∧
      wpAny (model P w) X.A (letOwnedTupleGo tg (.ref it) u) (fun _ sB => ∃ x H', Inv X pins σ H' sB ∧ RelV x u ∧ J.yld i H x H' ∧ tn (i + 1) sB.heap ∧ ∀ b ∈ fp, H' b = none) E sA) E s
  done : ∀ (X : Cx), X.prog = P → X.w = w → X.K = K → HotW X → ∀ (i : Nat) (pins : List (Addr × Obj)) (s : Shared) (σ : L2.St) (H : Hp) (E : Value → Shared → Prop), Inv X pins σ H s → (∀ b ∈ fp, FpOk X pins H b) → tn i s.heap → J.stop i H →
    wpAny (model P w) X.A (pyNext (.ref it)) (fun r sA => r = none ∧ Inv X pins σ H sA) E s
  self : ∀ (A : Around) (i : Nat) (s : Shared) (Q : Value → Shared → Prop) (E : Value → Shared → Prop), tn i s.heap → Q (.ref it) s → wpAny (model P w) A (pyIter (.ref it)) Q E s
theorem turn_listW {P : Program} {w : World} {K : PySem.W.Frag} {tg : Expr} (a it : Addr) : TurnW P w K tg (Itl K a) [it] it (fun i h => h.IsListIter it a i) where
  mem := by simp
  obj := fun i h st b hb => by
    have e : b = it := by simpa using hb
    subst e
    obtain ⟨o, e, c, d⟩ := st
    exact ⟨o, e, fun v z => by rw [d] at z; cases z⟩
  keep := fun i h h' st k => st.at fun o e => k it (by simp) o e
  item := by
    intro X hP hw hK mood i pins s σ H E I hf st targetA
    subst hP hw hK
    obtain ⟨xs, x, hq, gotX⟩ := targetA
    obtain ⟨its, rv, p, hz⟩ := I.list hq
    obtain ⟨u, hu, ru⟩ := rv.get gotX
    obtain ⟨f0, f1, f2, roam3, f4, f5⟩ := hf it (by simp)
    refine wpAny_pyNext_list_item st p.isList (x := u) (by simpa using hu) fun h' st' sb => ?_
    have I1 : Inv X pins σ H { s with heap := h' } := I.turned (t' := s.toks) (fun b o hb e => (sb.2 b hb).trans e) f0 f1 roam3 f4 f5
    obtain ⟨o, e, c, d⟩ := id st'
    exact ⟨u, rfl, go_of (s := { s with heap := h' }) e c d (by decide) ⟨x, H, I1, ru, ⟨rfl, fun ys hy => by rw [I.list_inj hy hq]; exact gotX⟩, st', fun b hb => (hf b hb).1⟩⟩
  done := by
    intro X hP hw hK mood i pins s σ H E I hf st targetA
    subst hP hw hK
    obtain ⟨xs, hq, gotX⟩ := targetA
    obtain ⟨its, rv, p, hz⟩ := I.list hq
    obtain ⟨f0, f1, f2, roam3, f4, f5⟩ := hf it (by simp)
    have lenσ := rv.length
    obtain ⟨x1, hot⟩ := mood _ _ _ _ I
    exact list_end_hot hot st p.isList (by simp; omega) fun h' eb => ⟨rfl, I.turned (t' := s.toks) (fun b o hb e => eb b o hb e) f0 f1 roam3 f4 f5⟩
  self := fun _ _ _ _ _ st h => wpAny_pyIter_listiter st h
def PIEW (X : Cx) (pins : List (Addr × Obj)) (σ : L2.St) (tg : Expr) (R : It → Hp → Prop) (itV : Value) (sB : Shared) : Prop :=
  ∃ (it : Addr) (fp : List Addr) (tn : Nat → Heap → Prop) (J : It) (H' : Hp), itV = .ref it ∧ Inv X pins σ H' sB ∧ TurnW X.prog X.w X.K tg J fp it tn ∧ tn 0 sB.heap ∧ (∀ b ∈ fp, FpOk X pins H' b) ∧ R J H'
structure PIW (X : Cx) (tg iter : Expr) (wi : TI) : Prop where
  run : ∀ (pins : List (Addr × Obj)) (s : Shared) (σ : L2.St) (H : Hp) (R : It → Hp → Prop), Inv X pins σ H s → wi σ H R →
    wpAny (model X.prog X.w) X.A (eval iter X.env) (fun v sA => wpAny (model X.prog X.w) X.A (pyIter v) (PIEW X pins σ tg R) X.xe sA) X.xe s
theorem hot_list {X : Cx} {tg l : Expr} {tl : TE} (lenσ : PE X l tl) : PIW X tg l (iList X.K tl) := by
  refine ⟨fun pins s σ H R I h => ?_⟩
  refine thn (lenσ.run pins s σ H _ I h) fun v sA ⟨x, H1, I1, r1, q1⟩ => ?_
  obtain ⟨a, e, ⟨xs, hq⟩, q⟩ := q1
  subst e
  cases r1
  obtain ⟨its, rv, p, hz⟩ := I1.list hq
  refine wpAny_pyIter_list p.isList ?_
  refine ⟨sA.heap.objs.size, [sA.heap.objs.size], _, _, H1, rfl, I1.kept (t' := sA.toks) fun b o e => Heap.get?_push_of_some _ e, turn_listW a _, ⟨_, Heap.get?_push_size _ rfl, rfl, rfl⟩, fun b hb => ?_, q⟩
  have e : b = sA.heap.objs.size := by simpa using hb
  subst e
  exact I1.fpOk (Nat.le_refl _) (I1.hok.fresh (Nat.le_refl _))
section
variable {X : Cx}
theorem lc_coreH {pins : List (Addr × Obj)} {s : Shared} {σ : L2.St} {H : Hp} {Q : VK} {elt tg iter : Expr} {ifs : List Expr} {scope : Scope} {own : List (Str × Nat)} {pos pos' : Pos} {wi : TI} {g : TG} {tt : TT} {te : TE} {use : Option (Value → Sem Unit)} {Qf : Value → Shared → Prop}
    (mood : HotC X) (nodupN : X.N.Nodup) (I : Inv X pins σ H s) (sourceA : PIW X tg iter wi) (ok : BlkOk X.N X.env.scope scope own)
    (targetA : ∀ (s : Shared) (H : Hp) (C : Addr) (cl : List (Str × Addr)) (fp : List Addr), HotW (X.blk s H scope (compEnvC scope cl C X.env) fp) → PG (X.blk s H scope (compEnvC scope cl C X.env) fp) tg g) (testsA : ∀ (s : Shared) (H : Hp) (C : Addr) (cl : List (Str × Addr)) (fp : List Addr), PTs (X.blk s H scope (compEnvC scope cl C X.env) fp) ifs tt)
    (elemA : ∀ (s : Shared) (H : Hp) (C : Addr) (cl : List (Str × Addr)) (fp : List Addr), PE (X.blk s H scope (compEnvC scope cl C X.env) fp) elt te) (plainA : ∀ x, foldedSetIterable iter X.env x = pure x)
    (h : tLc wi g tt te (own.map (·.2)) σ H Q)
    (back : ∀ D C s' m H', Inv X pins σ H' s' → Q (.ref D) H' → s'.heap.Ns C m → FpOk X pins H' C → compPost (model X.prog X.w) X.A X.xe use Qf (.ref D) C (.ok .next) s') :
    wpAny (model X.prog X.w) X.A (comprehension (.ListComp elt [⟨tg, iter, ifs, 0⟩] scope pos) scope X.env pos' (newList []) false (eval iter X.env) use) Qf X.xe s := by
  have captured : ∀ y ∈ scope.names, y.2 = .free → ∃ c, X.env.cells.lookup y.1 = some c := fun y hy e => by
    rcases ok.free y hy e with k | k
    · exact I.ok.has _ (.inl k)
    · exact I.ok.has _ (.inr k)
  refine wpAny_comprehension_free (use := use) rfl plainA (closure_ok captured) ok.kind (fun y hy e => by rw [ok.uniq y hy, e])
    (thn (sourceA.run pins s σ H _ I h) fun srcV sA gotX => thn gotX fun itV sB h2 => ?_)
  obtain ⟨it, fp, tn, J, HB, e, I2, T, st2, f2, q⟩ := h2
  subst e
  refine wpAny_newObj_type (newEnv_comp ?_) (by show 0 ≤ sizeLine; decide)
  generalize atD : sB.heap.objs.size = D
  have freshD : HB D = none := I2.hok.fresh (Nat.le_of_eq atD)
  obtain ⟨W, ⟨mes0, inv0⟩, walk0⟩ := q D freshD
  -- the new list
  generalize laid3 : ({ sB with heap := sB.heap.push { cls := .type "list", data := .seq ([] : List Value).toArray } } : Shared) = sC
  have J3 : Inv X pins σ (upd HB D (.lst [])) sC := by
    rw [← laid3]
    refine I2.laid (t' := sB.toks) (fun b o e => Heap.get?_push_of_some _ e) (Nat.le_of_eq atD) ⟨Nat.zero_le _, [], 0, .nil, ?_⟩
    rw [← atD]
    exact Heap.get?_push_size _ rfl
  have heap3 : sC.heap = sB.heap.push { cls := .type "list", data := .seq ([] : List Value).toArray } := by rw [← laid3]
  have below : ∀ b ∈ fp, b < sB.heap.objs.size := fun b hb => by
    obtain ⟨o, e, _⟩ := T.obj _ _ st2 b hb
    exact Heap.lt_size e
  have roam3 : ∀ b ∈ fp, FpOk X pins (upd HB D (.lst [])) b ∧ b < sC.heap.objs.size := fun b hb => by
    have hlt := below b hb
    refine ⟨⟨?_, (f2 b hb).2⟩, by rw [heap3, Heap.size_push]; exact Nat.lt_succ_of_lt hlt⟩
    rw [upd_ne (by rw [← atD]; exact Nat.ne_of_lt hlt)]
    exact (f2 b hb).1
  have turn3 : tn 0 sC.heap := T.keep _ _ _ st2 fun b _ o e => by rw [heap3]; exact Heap.get?_push_of_some _ e
  have J4 := block_start J3 ok nodupN roam3
  have tgt := targetA sC (upd HB D (.lst [])) sC.heap.objs.size (cellsFrom (sC.heap.objs.size + 1) scope.names (cloFrom X.env.cells scope.names [])) fp
  have tst := testsA sC (upd HB D (.lst [])) sC.heap.objs.size (cellsFrom (sC.heap.objs.size + 1) scope.names (cloFrom X.env.cells scope.names [])) fp
  have elm := elemA sC (upd HB D (.lst [])) sC.heap.objs.size (cellsFrom (sC.heap.objs.size + 1) scope.names (cloFrom X.env.cells scope.names [])) fp
  show codeAny _ _ (.compStart (.ListComp elt [⟨tg, iter, ifs, 0⟩] scope pos) 0 (.ref it) (.ref D) (compEnvC scope (cellsFrom (sC.heap.objs.size + 1) scope.names (cloFrom X.env.cells scope.names [])) sC.heap.objs.size X.env)) (compPost (model X.prog X.w) X.A X.xe use Qf (.ref D) sC.heap.objs.size) { sC with heap := pushCells (sC.heap.push { cls := .type "dict", data := .dict #[] }) scope.names }
  have untr : ∀ b ∈ fp, (upd HB D (.lst [])) b = none := fun b hb => (roam3 b hb).1.1
  generalize blkE : compEnvC scope (cellsFrom (sC.heap.objs.size + 1) scope.names (cloFrom X.env.cells scope.names [])) sC.heap.objs.size X.env = ce at J4 tgt tst elm ⊢
  have locE : ce.locals = sC.heap.objs.size := by subst blkE; rfl
  generalize heapE : upd HB D (.lst []) = HC at J3 J4 tgt tst elm inv0 untr roam3
  -- the error is handled in the block, too
  have hotB : HotW (X.blk sC HC scope ce fp) := by
    obtain ⟨p, ⟨hh, v1, eqB, c1⟩, hp⟩ := id mood
    have P1 := J3.pin p (List.mem_append_left _ hp)
    intro pinsB σB HB sB IB
    refine ⟨p.1, hh, p.2, v1, IB.base.keep p.1 p.2 P1.1 P1.2.1 (fun lessM => (List.mem_cons.mp (J3.stkSub p.1 lessM)).elim P1.2.2.1 P1.2.2.2.1) (fun lessM => ?_), eqB, c1⟩
    exact (roam3 p.1 lessM).1.2.2.2.2.2 p (List.mem_append_left _ hp) rfl
  have tgt := tgt hotB
  generalize laid4 : ({ sC with heap := pushCells (sC.heap.push { cls := .type "dict", data := .dict #[] }) scope.names } : Shared) = sD at J4 ⊢
  have turn4 : tn 0 sD.heap := T.keep _ _ _ turn3 fun b _ o e => by rw [← laid4]; exact pushCells_keeps _ _ _ _ (Heap.get?_push_of_some _ e)
  have stat : ∀ {σ' : L2.St} {H' : Hp} {s' : Shared}, Inv (X.blk sC HC scope ce fp) [] σ' H' s' → (∀ b ∈ fp, H' b = none) → ∀ b ∈ fp, FpOk (X.blk sC HC scope ce fp) [] H' b := fun {σ' H' s'} I' nsC b hb =>
    ⟨nsC b hb, (I'.ok.exf b hb).1, I'.ok.exfs b hb, .inl hb, fun x c e => (I'.ok.exf b hb).2 x c e, fun p hp => absurd (show p ∈ ([] : List (Addr × Obj)) ++ [] from hp) (by simp)⟩
  have outer0 : codeAny (model X.prog X.w) X.A (.compLoop (.ListComp elt [⟨tg, iter, ifs, 0⟩] scope pos) 0 (.ref it) (.ref D) ce) (compPost (model X.prog X.w) X.A X.xe use Qf (.ref D) sC.heap.objs.size) sD := by
    refine compLoop_any (fun n s' => ∃ i H', Inv (X.blk sC HC scope ce fp) [] (wipe σ (own.map (·.2))) H' s' ∧ tn i s'.heap ∧ (∀ b ∈ fp, H' b = none) ∧ W i n H') ?_ mes0 ⟨0, HC, J4, turn4, untr, inv0⟩
    rintro n sE ⟨i, HE, J5, turn5, un5, inv5⟩
    rcases walk0 i n HE inv5 with ⟨atEnd, done0⟩ | ⟨more, NxA, reach, step⟩
    · have ended := T.done (X.blk sC HC scope ce fp) rfl rfl rfl hotB i [] sE _ HE (fun _ _ => False) J5 (stat J5 un5) turn5 atEnd
      refine thnF ended fun r sF ⟨hr, J6⟩ => ?_
      subst hr
      -- back in the def's context
      have J7 : Inv X pins σ HE sF := J3.call' (ch := fp) J6.os J6.base J6.hok J6.bare fun b hb => ⟨(roam3 b hb).1.2.2.2.1, (roam3 b hb).1.2.1, (roam3 b hb).1.2.2.2.2.1, (roam3 b hb).1.2.2.2.2.2⟩
      have freeC : HE sC.heap.objs.size = none := by
        have z : HE ce.locals = none := J6.free
        rw [locE] at z
        exact z
      obtain ⟨m, nsC, _⟩ := J6.loc
      have nsC : sF.heap.Ns ce.locals m := nsC
      rw [locE] at nsC
      exact back D sC.heap.objs.size sF m HE J7 done0 nsC (J3.fpOk (Nat.le_refl _) freeC)
    · have given := T.item (X.blk sC HC scope ce fp) rfl rfl rfl hotB i [] sE _ HE (fun _ _ => False) J5 (stat J5 un5) turn5 more
      refine thnF given fun r sF ⟨u, hr, got6⟩ => ?_
      subst hr
      refine thnF got6 fun _ sG ⟨x, HG, J7, rel7, yld7, turn7, un7⟩ => ?_
      have J7p := J7.pinned (stat J7 un7) (T.obj _ _ turn7)
      refine thnF (tgt.run _ sG _ HG x u _ J7p rel7 (step x HG yld7)) fun _ sH ⟨τ, HH, J8, wip8, go8⟩ => ?_
      refine thnF (tst.run _ sH τ HH _ J8 go8) fun b sI ⟨HI, J9, go9⟩ => ?_
      -- the turn's end
      have close : ∀ {s' : Shared} {H' : Hp}, Inv (X.blk sC HC scope ce fp) ([] ++ pinsAt fp sG.heap) τ H' s' → NxA H' → ∃ m, m < n ∧ ∃ i H', Inv (X.blk sC HC scope ce fp) [] (wipe σ (own.map (·.2))) H' s' ∧ tn i s'.heap ∧ (∀ b ∈ fp, H' b = none) ∧ W i m H' := fun {s' H'} I' nextW => by
        obtain ⟨m', lessM, invM⟩ := reach H' nextW
        have kept : ∀ b ∈ fp, ∀ o, sG.heap.get? b = some o → s'.heap.get? b = some o ∧ H' b = none := fun b hb o e =>
          let z := I'.pin (b, o) (List.mem_append_right _ (List.mem_append_right _ (mem_pinsAt hb e)))
          ⟨z.1, z.2.1⟩
        have lenσ : (wipe σ (own.map (·.2))).length = τ.length := by rw [← wip8, wipe_length]
        refine ⟨m', lessM, i + 1, H', (I'.unpinned (pins := [])).weak lenσ (fun j v e => ?_), T.keep _ _ _ turn7 fun b hb o e => (kept b hb o e).1, fun b hb => ?_, invM⟩
        · rw [← wip8] at e
          exact (wipe_some e).1
        · obtain ⟨o, e, _⟩ := T.obj _ _ turn7 b hb
          exact (kept b hb o e).2
      cases b with
      | false =>
        simp only [Bool.false_eq_true, if_false] at go9 ⊢
        exact close J9 go9
      | true =>
        simp only [if_true] at go9 ⊢
        refine thnF (elm.run _ sI τ HI _ J9 go9) fun z sJ ⟨yv, HJ, J10, rel10, acc, acc10, room10, nextW⟩ => ?_
        exact app_ok (X := X.blk sC HC scope ce fp) J10 acc10 room10 rel10 fun sK J11 => close J11 nextW
  exact codeAny_compStart_list outer0 (T.self X.A 0 _ _ _ turn4 outer0)
/-- name = [..] on one line, the name a local, an error being handled -/
theorem hot_setLc {i : Nat} {y : Str} {py : Pos} {elt tg iter : Expr} {ifs : List Expr} {scope : Scope} {own : List (Str × Nat)} {pos spos : Pos} {wi : TI} {g : TG} {tt : TT} {te : TE} (mood : HotC X) (nodupN : X.N.Nodup) (hy : X.N[i]? = some y) (hyl : X.env.scope.names.lookup y = some .local)
    (hsw : swapsWith (.ListComp elt [⟨tg, iter, ifs, 0⟩] scope pos) (some (.Name y py)) spos.line X.env = pure true) (sourceA : PIW X tg iter wi) (ok : BlkOk X.N X.env.scope scope own)
    (targetA : ∀ (s : Shared) (H : Hp) (C : Addr) (cl : List (Str × Addr)) (fp : List Addr), HotW (X.blk s H scope (compEnvC scope cl C X.env) fp) → PG (X.blk s H scope (compEnvC scope cl C X.env) fp) tg g) (testsA : ∀ (s : Shared) (H : Hp) (C : Addr) (cl : List (Str × Addr)) (fp : List Addr), PTs (X.blk s H scope (compEnvC scope cl C X.env) fp) ifs tt)
    (elemA : ∀ (s : Shared) (H : Hp) (C : Addr) (cl : List (Str × Addr)) (fp : List Addr), PE (X.blk s H scope (compEnvC scope cl C X.env) fp) elt te) (plainA : ∀ x, foldedSetIterable iter X.env x = pure x := by intro _; rfl) :
    PS X (.Assign [.Name y py] (.ListComp elt [⟨tg, iter, ifs, 0⟩] scope pos) spos) (tAsg (tLc wi g tt te (own.map (·.2))) (gName i)) := by
  refine ⟨fun pins s σ H D I h => ?_⟩
  rw [exec_Assign_Name_used _ _ _ _ hsw]
  refine wpAny_bind (wpAny_standAt (wpAny_bind ?_))
  show wpAny _ X.A (do let _ ← comprehension (.ListComp elt [⟨tg, iter, ifs, 0⟩] scope pos) scope X.env (firstIterPos [⟨tg, iter, ifs, 0⟩] pos) (newList []) false (eval iter X.env) (some (assign (.Name y py) X.env))) _ _ s
  have h : tLc wi g tt te (own.map (·.2)) σ H (fun x H1 => gName i x σ H1 D.nx) := h
  refine wpAny_bind (thn (lc_coreH (Qf := fun _ s' => SP X pins D .next s') mood nodupN I sourceA ok targetA testsA elemA plainA h fun L C s' m H' I' q nsC f => ?_) fun _ s' hq => wpAny_pure (wpAny_pure hq))
  show wpAny _ _ (assign (.Name y py) X.env (.ref L)) _ _ _
  refine wpAny_assign_Name (store_ok2 (v := V.ref L) I' nodupN hy (.inl hyl) rfl (fun sB I2 ⟨a, sb, ha⟩ => ?_) (.inr hyl))
  obtain ⟨f0, f1, f2, roam3, f4, f5⟩ := f
  have haC : C ≠ a := by
    rcases ha with z | z
    · rw [z]; exact f1
    · exact fun e => f4 y a z e.symm
  refine ⟨m, nsC.sameBut sb haC, fun heap3 sb3 => ?_⟩
  exact ⟨_, H', I2.turned (t' := sB.toks) (fun b o hb e => (sb3.2 b hb).trans e) f0 f1 roam3 f4 f5, q⟩
end
end Sq

set_option Elab.async false
set_option linter.all false
set_option maxRecDepth 100000
set_option maxHeartbeats 4000000
/-! A def of the law called within an except suite with the caught error. -/
namespace Sq
open PySem PySem.Spec PyProof.Rows L2 HotX L2H
/-- what a def promises there: e the handled error, its class, its dict -/
abbrev SpZ := Addr → Value → Option Addr → Sp
structure FnHZ (P : Program) (w : World) (K : PySem.W.Frag) (mg : Str → Option Value) (base : Heap) (CX : CXT) (k : Nat) (f : Addr) (fd : FuncData) (ps : List Str) (sp : SpZ) : Prop where
  len : ∀ a c d vs H Q E, sp a c d vs H Q E → vs.length = ps.length
  run : ∀ (A : Around) (outer : List Env) (s : Shared) (H : Hp) (args : Args) (us : List Value) (vs : List V) (Q : VK) (E : XK) (p : Addr × Obj) (cls : Value) (d : Option Addr), RoomH k A → Hot1 A p → L2N.Zn cls d p.2 → PinOk outer H s p → Env0 P w K mg base A outer s H → BindsTo s fd args (ps.zip us) → Vals vs us → sp p.1 cls d vs H Q E →
    codeAny (model P w) A (.call (.ref f) args) (CR CX outer P w H s Q E) s
theorem fn_ofHZ {CX : CXT} {P : Program} {w : World} {K : PySem.W.Frag} {mg : Str → Option Value} {base : Heap} {k : Nat} {f : Addr} {x qual : Str} {st : Stmt} {fd : FuncData} {N ps : List Str} {sp : SpZ}
    (F : Fun K x qual st f fd) (S : FnScope N ps (defScope st)) (len : ∀ a c d vs H Q E, sp a c d vs H Q E → vs.length = ps.length)
    (hbody : ∀ (cdv : Value) (A : Around) (outer : List Env) (s : Shared) (H : Hp) (vs : List V) (Q : VK) (E : XK) (p : Addr × Obj) (cls : Value) (d : Option Addr), Hot1 A p → L2N.Zn cls d p.2 → RoomH k (A.deeper (envOfC qual (defScope st) s.heap.objs.size f cdv)) → sp p.1 cls d vs H Q E →
      ∃ t, PSs (cxH CX P w K mg base N qual (defScope st) f cdv A outer s H E p) (defBody st) t ∧ t { nx := fun _ H' => Q .non H', rt := Q } (L2.start N vs) H) :
    FnHZ P w K mg base CX (k + 1) f fd ps sp := by
  obtain ⟨oc, od, kV, doc, pm, an, cdv, ct, osl, rfl, lk, hcd⟩ := F.ex
  refine ⟨len, fun A outer s H args us vs Q E p cls d hr hot hz hpin e0 hb r hsp => ?_⟩
  have hl := len _ _ _ _ _ _ _ hsp
  have KX : K.In s.heap := e0.mod.kin.keeps fun b o e => (e0.bs b o e).1
  have lim : s.heap.NoLimit := e0.mod.nolimit.keeps fun b o e => (e0.bs b o e).1
  have hkind : ∀ y ∈ ps.zip us, (defScope st).names.lookup y.1 = some .local ∨ ((defScope st).names.lookup y.1 = some .cell ∧ ((cellsFrom (s.heap.objs.size + 1) (defScope st).names []).lookup y.1).isSome = true) := fun ⟨n, v⟩ hy => by
    rcases S.par n (List.of_mem_zip hy).1 with q | q
    · exact .inl q
    · exact .inr ⟨q, PySem.W.cellsFrom_some _ _ _ (.inl q)⟩
  refine codeAny_call_function hr.depth (KX _ _ lk) rfl S.co S.gen rfl (PySem.W.codeRec_of KX hcd) (hb _ _ _ _ ?_)
  refine wpAny_newFunctionEnv_cells S.kind hkind fun env he s1 x => ?_
  subst he
  refine ⟨lim.keeps x.toInCall.keep, codeAny_func ?_⟩
  obtain ⟨t, ht, hq⟩ := hbody cdv A outer s H vs Q E p cls d hot hz (hr.deeper _) hsp
  have I : Inv (cxH CX P w K mg base N qual (defScope st) f cdv A outer s H E p) [] (L2.start N vs) H s1 := inv_startH S hpin e0 hl r x
  refine wpAny_mono (ht.run [] s1 (L2.start N vs) H _ I hq) (fun fl s' hs => ?_) fun e s' hs => hs
  have fin : ∀ {σ' : L2.St} {H' : Hp} {v : V} {u : Value}, Inv (cxH CX P w K mg base N qual (defScope st) f cdv A outer s H E p) [] σ' H' s' → RelV v u → Q v H' → CE outer P w H s Q u s' :=
    fun {σ' H' v u} J rv q => ⟨v, H', J.os, J.bare, J.base, J.hok, rv, q⟩
  cases fl with
  | ret u =>
    obtain ⟨v, σ', H', J, rv, q⟩ := hs
    exact fin J rv q
  | next =>
    obtain ⟨σ', H', J, q⟩ := hs
    exact fin (v := V.non) (u := Value.none) J rfl q
  | brk =>
    obtain ⟨_, _, _, q⟩ := hs
    exact False.elim q
  | cont =>
    obtain ⟨_, _, _, q⟩ := hs
    exact False.elim q
/-- it stands at its name -/
structure Dz (P : Program) (w : World) (K : PySem.W.Frag) (mg : Str → Option Value) (base : Heap) (k : Nat) (x : Str) (ps : List Str) (sp : SpZ) : Prop where
  ex : ∃ f fd, FnHZ P w K mg base CX0 k f fd ps sp ∧ mg x = some (.ref f) ∧ PySem.W.keepIn K (.ref f) = true ∧ Binds K fd ps []
section
variable {X : Cx} {k : Nat} {ps : List Str} {sp : SpZ} {x : Str} {q pos : Pos} {e : Expr} {es : List Expr} {t : TA} {a : Addr} {oe : Obj} {cls : Value} {d : Option Addr} {pn : List (Addr × Obj)}
/-- the call, in the suite of the clause that caught the error at a -/
theorem pe_callHZ (D : Dz X.prog X.w X.K X.mg X.base k x ps sp) (hz : L2N.Zn cls d oe) (hf : ∃ vs, oe.data = .fields vs) (hr : Room k X.A) (hg : Gl X x) (ha : PA (X.suite a ((a, oe) :: pn)) (e :: es) t)
    (hdb : (x == ("__debug__" : Str)) = false := by decide) (he : starEach (e :: es) X.env = (false, eval e X.env) :: starEach es X.env := by rfl) (hpl : (backTo pos (starEach es X.env)).any (·.1) = false := by rfl) :
    PE (X.suite a ((a, oe) :: pn)) (.Call (.Name x q) (e :: es) [] pos) (tCallS (sp a cls d) (fun _ => E0) t) := by
  obtain ⟨f, fd, F, hm, hk, hb⟩ := D.ex
  obtain ⟨vs0, hd0⟩ := hf
  refine ⟨fun pins s σ H Q I h => ?_⟩
  refine wpAny_Call_Name_kw (ld_glob (X := X.suite a ((a, oe) :: pn)) I hg hm ?_ hdb)
  refine PySem.W.callWith_K (h₀ := X.base) I.ok.mod.kin hk (thn (ha.run pos pins s σ H _ I h) fun us s1 ⟨vs, H1, I1, r, q⟩ => ⟨I1.kIn, ?_⟩) he hpl
  have hl : us.length = ps.length := by rw [← r.length]; exact F.len _ _ _ _ _ _ _ q
  have b := hb s1 us I1.kIn (by rw [List.append_nil]; exact hl)
  rw [List.append_nil] at b
  have P1 := I1.pin (a, oe) (List.mem_append_left _ List.mem_cons_self)
  have hpin : PinOk X.stack H1 s1 (a, oe) := ⟨P1.1, P1.2.1, fun hm => (List.mem_cons.mp (I1.stkSub a hm)).elim P1.2.2.1 P1.2.2.2.1, P1.2.2.2.2⟩
  have hot : Hot1 (X.suite a ((a, oe) :: pn)).A (a, oe) := ⟨rfl, vs0, hd0, hz.2.2 vs0 hd0⟩
  have hrH : RoomH k (X.suite a ((a, oe) :: pn)).A := ⟨hr.dp, hr.un⟩
  refine wpAny_call (codeAny_mono (F.run (X.suite a ((a, oe) :: pn)).A X.stack s1 H1 ⟨us, []⟩ us vs Q (fun _ _ _ => False) (a, oe) cls d hrH hot hz hpin I1.env0 b r q) fun r s' hq => ?_)
  cases r with
  | error u => exact hq.elim
  | ok fl =>
    cases fl with
    | ret u => exact I1.after hq
    | next => exact False.elim hq
    | brk => exact False.elim hq
    | cont => exact False.elim hq
end
/-! ### what is asked of the handled error -/
section
variable {X : Cx} {p : Addr × Obj} {C d : Addr}
theorem pin_obj {pins : List (Addr × Obj)} {σ : L2.St} {H : Hp} {s : Shared} {v : V} (I : Inv X pins σ H s) (hp : p ∈ X.pn) (hz : L2N.Zn (.ref C) (some d) p.2) (hf : ∃ vs, p.2.data = .fields vs) (e : H d = some (exd d [(("value" : Str), v)])) :
    ∃ od u, PySem.W.InstAt s.heap p.1 p.2 C (some od) ∧ PySem.W.lookIn "value" od = some (some u) ∧ RelV v u := by
  obtain ⟨vs, hd⟩ := hf
  have ho := (I.pin p (List.mem_append_left _ hp)).1
  obtain ⟨mA, hns, hr⟩ := exd_at I.hok e
  obtain ⟨od, hod, hl⟩ := lookIn_ns hns
  have l : List.lookup ("value" : Str) [(("value" : Str), v)] = some v := by simp [List.lookup]
  obtain ⟨u, hu, ru⟩ := RelO.some_of (v := v) (o := mA "value") (by rw [← l]; exact hr "value")
  exact ⟨od, u, ⟨ho, hz.1, by unfold PySem.W.notCls; rw [hd] <;> rfl, by rw [hz.2.1]; exact hod⟩, by rw [hl, hu], ru⟩
def rIsiP (K : PySem.W.Frag) (a C d : Addr) : List V → Hp → VK → Prop := fun xs H Q => ∃ (v c : V) (u : Value) (b : Bool), xs = [.ref a, c] ∧ ClsV c u ∧ H d = some (exd d [(("value" : Str), v)]) ∧ ExcC K C ∧ PySem.W.kitOne K (.ref C) u = some b ∧ Q (.bl b) H
theorem call_isiP (hp : p ∈ X.pn) (hz : L2N.Zn (.ref C) (some d) p.2) (hf : ∃ vs, p.2.data = .fields vs) : CallR X (.builtin "isinstance") (rIsiP X.K p.1 C d) := by
  intro pins s σ H xs us Q I r h
  obtain ⟨v, c, u, b, rfl, k, at_, T, e, q⟩ := h
  obtain ⟨u1, u2, rfl, r1, r2⟩ := vals2 r
  obtain rfl := k.eq r2
  obtain rfl : u1 = Value.ref p.1 := r1
  obtain ⟨od, uv, J, _, _⟩ := pin_obj I hp hz hf at_
  exact PySem.W.kia_one (SqX.kit (ox := p.2) (od := some od) T) I.kIn J e (fun z => nomatch z) fun tk => ⟨.bl b, H, I.tok tk, rfl, q⟩
def tPv (K : PySem.W.Frag) (a C d : Addr) (te : TE) : TE := fun σ H Q => te σ H fun x H1 => ∃ (v : V), x = .ref a ∧ H1 d = some (exd d [(("value" : Str), v)]) ∧ XfC K C ∧ PySem.W.findIn K (.ref C) "value" = some none ∧ Q v H1
theorem pe_pv {e : Expr} {te : TE} {pos : Pos} (hp : p ∈ X.pn) (hz : L2N.Zn (.ref C) (some d) p.2) (hf : ∃ vs, p.2.data = .fields vs) (he : PE X e te) (hb : attributeBase e "value" X.env (eval e X.env) = eval e X.env := by rfl) : PE X (.Attribute e "value" pos) (tPv X.K p.1 C d te) := by
  refine ⟨fun pins s σ H Q I h => ?_⟩
  refine attr_of hb (thn (he.run pins s σ H _ I h) fun u s1 hh => ?_)
  obtain ⟨x, H1, I1, rx, v, ex, at_, T, hno, q⟩ := hh
  subst ex
  obtain rfl : u = Value.ref p.1 := rx
  obtain ⟨od, uv, J, l, ru⟩ := pin_obj I1 hp hz hf at_
  exact HandSPX.exc_get I1.kIn J T.ga T.gg T.exC (PySem.W.findObj_own T.hdC hno rfl l) (handed_of ru) ⟨v, H1, I1.tok _, ru, q⟩
end
end Sq

set_option Elab.async false
set_option linter.all false
set_option maxRecDepth 100000
set_option maxHeartbeats 4000000
/-! Calls that may raise, where the error's context is known to be None. -/
namespace Sq
open PySem PySem.Spec PyProof.Rows L2
theorem okN {P : Program} {w : World} {K : PySem.W.Frag} {mg : Str → Option Value} {base : Heap} {x qual : Str} {st : Stmt} {f : Addr} {fd : FuncData} {N ps : List Str} {k : Nat} {sp : Sp} (F : Fun K x qual st f fd) (S : FnScope N ps (defScope st)) (len : ∀ vs H Q E, sp vs H Q E → vs.length = ps.length)
    (walk : ∀ (cdv : Value) (A : Around) (outer : List Env) (s : Shared) (H : Hp) (vs : List V) (Q : VK) (E : XK), Room k (A.deeper (envOfC qual (defScope st) s.heap.objs.size f cdv)) → sp vs H Q E →
      ∃ t, PSs (cxOf (L2N.CX P w) P w K mg base N qual (defScope st) f cdv A outer s H E) (defBody st) t ∧ t { nx := fun _ H' => Q .non H', rt := Q } (L2.start N vs) H) : FnOk P w K mg base (L2N.CX P w) (k + 1) f fd ps sp := by
  obtain ⟨oc, od, kV, doc, pm, an, cdv, ct, osl, rfl, lk, hcd⟩ := F.ex
  exact fn_of lk hcd S len fun A outer s H vs Q E hr h => walk cdv A outer s H vs Q E hr h
/-- a def with defaults that may raise -/
theorem okDN {P : Program} {w : World} {K : PySem.W.Frag} {mg : Str → Option Value} {base : Heap} {x qual : Str} {prm : Arguments} {bd : List Stmt} {scp : Scope} {dvs : List V} {kws : List (Str × V)} {f : Addr} {fd : FuncData} {names ps : List Str} {k : Nat} {sp : Sp}
    (F : FunD K x qual prm bd scp dvs kws f fd) (sc : FnScope names ps scp) (count : ∀ vs H Q E, sp vs H Q E → vs.length = ps.length)
    (inner : ∀ (cdv : Value) (A : Around) (outer : List Env) (s : Shared) (H : Hp) (vs : List V) (Q : VK) (E : XK), Room k (A.deeper (envOfC qual scp s.heap.objs.size f cdv)) → sp vs H Q E →
      ∃ t, PSs (cxOf (L2N.CX P w) P w K mg base names qual scp f cdv A outer s H E) bd t ∧ t { nx := fun _ H' => Q .non H', rt := Q } (start names vs) H) : FnOk P w K mg base (L2N.CX P w) (k + 1) f fd ps sp :=
  F.ok sc count fun cdv A outer s H vs Q E hr h => inner cdv A outer s H vs Q E hr h
structure Dn (P : Program) (w : World) (K : PySem.W.Frag) (mg : Str → Option Value) (base : Heap) (k : Nat) (x : Str) (ps : List Str) (sp : Sp) : Prop where
  ex : ∃ f fd, FnOk P w K mg base (L2N.CX P w) k f fd ps sp ∧ mg x = some (.ref f) ∧ PySem.W.keepIn K (.ref f) = true ∧ Binds K fd ps []
theorem Dn.mk' {P : Program} {w : World} {K : PySem.W.Frag} {mg : Str → Option Value} {base : Heap} {k : Nat} {x : Str} {st : Stmt} {ps : List Str} {sp : Sp} {f : Addr} {fd : FuncData} (F : Fun K x x st f fd) (G : FnOk P w K mg base (L2N.CX P w) k f fd ps sp) (g : mg x = some (.ref f)) (b : Binds K fd ps []) : Dn P w K mg base k x ps sp :=
  ⟨⟨f, fd, G, g, F.kp, b⟩⟩
theorem Dz.mk' {P : Program} {w : World} {K : PySem.W.Frag} {mg : Str → Option Value} {base : Heap} {k : Nat} {x : Str} {st : Stmt} {ps : List Str} {sp : SpZ} {f : Addr} {fd : FuncData} (F : Fun K x x st f fd) (G : FnHZ P w K mg base CX0 k f fd ps sp) (g : mg x = some (.ref f)) (b : Binds K fd ps []) : Dz P w K mg base k x ps sp :=
  ⟨⟨f, fd, G, g, F.kp, b⟩⟩
section
variable {P : Program} {w : World} {K : PySem.W.Frag} {mg : Str → Option Value} {base : Heap} {N : List Str} {qual : Str} {scope : Scope} {f : Addr} {cd : Value} {A : Around} {outer : List Env} {s : Shared} {H : Hp} {E : XK}
theorem takesN : L2N.Takes (cxOf (L2N.CX P w) P w K mg base N qual scope f cd A outer s H E) (fun cls d _ H' => E cls d H') := L2N.takes_of rfl rfl rfl rfl
theorem ownsN : PassesOwn (model P w) (cxOf (L2N.CX P w) P w K mg base N qual scope f cd A outer s H E).A (cxOf (L2N.CX P w) P w K mg base N qual scope f cd A outer s H E).env (cxOf (L2N.CX P w) P w K mg base N qual scope f cd A outer s H E).xe := passes_of rfl
end
theorem takesN0 {X : Cx} : L2N.Takes X (fun _ _ _ _ => False) := fun _ _ x => by
  obtain ⟨_, _, _, _, _, _, _, _, _, _, _, _, _, _, _, _, z⟩ := x
  exact z.elim
section
variable {X : Cx} {k : Nat} {ps ks : List Str} {sp : Sp} {x : Str} {p pos : Pos} {e : Expr} {es : List Expr} {t tk : TA} {W : WX}
theorem pe_callN (D : Dn X.prog X.w X.K X.mg X.base k x ps sp) (takes : L2N.Takes X W) (hr : Room k X.A) (hg : Gl X x) (ha : PA X (e :: es) t) (hdb : (x == ("__debug__" : Str)) = false := by decide)
    (he : starEach (e :: es) X.env = (false, eval e X.env) :: starEach es X.env := by rfl) (hpl : (backTo pos (starEach es X.env)).any (·.1) = false := by rfl) :
    PE X (.Call (.Name x p) (e :: es) [] pos) (tCallS sp (WE W) t) := by
  obtain ⟨f, fd, F, g, kp, b⟩ := D.ex
  exact pe_callS F hr hg g kp b (L2N.passAt takes) ha hdb he hpl
/-- raise X(e): what is made, its context None -/
theorem pmk_erN {C fI : Addr} {q : Str} {te : TE} (T : SqX.Er X.K X.prog C fI q) (gC : X.mg x = some (.ref C)) (hr : Room k X.A) (hg : Gl X x) (he : PE X e te)
    (hs : starEach [e] X.env = (false, eval e X.env) :: starEach [] X.env := by rfl) (hdb : (x == ("__debug__" : Str)) = false := by decide) :
    L2N.PMk X (.Call (.Name x p) [e] [] pos) (fun σ H Q => te σ H fun v H1 => ∀ d, H1 d = none → Q (.ref C) (some d) (upd H1 d (exd d [(("value" : Str), v)]))) := by
  intro pins s σ H Q I h
  refine wpAny_Call_Name_kw (ld_glob I hg gC ?_ hdb)
  refine PySem.W.callWith_K (h₀ := X.base) I.ok.mod.kin T.kC ?_ hs (by rfl)
  rw [hs]
  show wpAny _ _ (spliced ((false, eval e X.env) :: backTo pos (starEach [] X.env))) _ _ s
  refine Calls.spliced_cons (thn (he.run pins s σ H _ I h) fun u s1 hh => ?_)
  obtain ⟨v, H1, I1, r1, q1⟩ := hh
  refine Calls.spliced_nil ⟨I1.kIn, ?_⟩
  show wpAny _ _ (call (.ref C) [u]) _ _ _
  obtain ⟨mb, hb, boot⟩ := I1.ok.mod.blt
  refine wpAny_call (SqX.made T I1.kIn (I1.ok.mod.glob.keeps I1.bk) I1.nolimit (hb.keeps I1.bk) boot (by have := hr.dp; omega) fun h' tk a d t1 M => ?_)
  have na : H1 a = none := I1.hok.fresh M.big
  have nd : H1 d = none := I1.hok.fresh M.dbig
  obtain ⟨G, g1, g2⟩ := restrict h' fun b => decide (b ≠ a)
  have gk : ∀ b, b ≠ a → G.get? b = h'.get? b := fun b hb => g1 b (decide_eq_true hb)
  have ga : G.get? a = none := g2 a (by simp)
  have old : ∀ b o, s1.heap.get? b = some o → G.get? b = some o := fun b o z => (gk b (Nat.ne_of_lt (Nat.lt_of_lt_of_le (Heap.lt_size z) M.big))).trans (M.keep b o z)
  have nsG : G.Ns1 d (fun y => if y = "value" then some u else none) := M.ns.at fun o z => (gk d M.dne).trans z
  have rel : ∀ f, RelO (List.lookup f [(("value" : Str), v)]) (if f = "value" then some u else none) := relO_put (fs := []) (mA := fun _ => none) r1 fun g => True.intro
  have J : Inv X pins σ (upd H1 d (exd d [(("value" : Str), v)])) { s1 with heap := G, toks := tk } := I1.laid (t' := tk) old M.dbig (exd_ok nsG rel)
  refine ⟨a, _, _, { s1 with heap := G, toks := tk }, _, .ref C, some d, rfl, J, fun b o z => ?_, ga, M.obj, ⟨rfl, rfl, fun vs e => by cases e; rfl⟩, rfl, rfl, by rw [upd_ne (Ne.symm M.dne)]; exact na, rfl, I1.bare, raises_own T.exC T.tyC, q1 d nd⟩
  by_cases hb : b = a
  · rw [hb, ga] at z
    cases z
  · rw [← gk b hb]
    exact z
end
end Sq

set_option Elab.async false
set_option linter.all false
set_option maxRecDepth 100000
set_option maxHeartbeats 2000000
/-! Data read off the layer's heap. -/
namespace Sq
open PySem PySem.Spec PyProof.Rows L2
theorem same_new {H : Hp} {p : Addr} {o : HO} (h : H p = none) : Same H (upd H p o) := fun b x e => by
  rw [upd_ne (ne_of_none e h)]
  exact e
theorem map_at {ks : List Int} {i : Nat} {x : V} (h : (ks.map V.int)[i]? = some x) : ∃ k, ks[i]? = some k ∧ V.int k = x := by
  rw [List.getElem?_map] at h
  exact Option.map_eq_some_iff.mp h
section
variable {K : PySem.W.Frag}
theorem dp_ints {H : Hp} : ∀ (ds : List Int), DpAll K H (ds.map V.int) (ds.map PyData.int)
  | [] => .nil
  | d :: ds => .cons (.int d) (dp_ints ds)
theorem lays_ints : ∀ (ds : List Int), PyData.canLayAll0 (ds.map PyData.int) = true
  | [] => rfl
  | d :: ds => by
    show (PyData.canLay0 (.int d) && PyData.canLayAll0 (ds.map PyData.int)) = true
    rw [lays_ints ds]
    rfl
theorem deep_ints : ∀ (ds : List Int), PyData.depthAll (ds.map PyData.int) ≤ 1
  | [] => Nat.zero_le _
  | _ :: ds => Nat.max_le.mpr ⟨Nat.zero_le _, deep_ints ds⟩
theorem shaped_ints (ds : List Int) : SeqAt.shaped (.list (ds.map PyData.int)) = true :=
  Bool.and_eq_true_iff.mpr ⟨lays_ints ds, decide_eq_true (Nat.le_trans (Nat.add_le_add_right (deep_ints ds) 1) (by decide))⟩
end
/-! ### data of ints and short lists -/
mutual
def il : PyData → Bool
  | .int _ => true
  | .list xs => decide (xs.length ≤ 1000) && ilAll xs
  | _ => false
def ilAll : List PyData → Bool
  | [] => true
  | x :: xs => il x && ilAll xs
end
theorem il_at : ∀ {ds : List PyData} {i : Nat} {d : PyData}, ilAll ds = true → ds[i]? = some d → il d = true
  | x :: xs, 0, d, h, e => by
    cases e
    exact (Bool.and_eq_true_iff.mp h).1
  | x :: xs, i + 1, d, h, e => il_at (Bool.and_eq_true_iff.mp h).2 e
theorem depth_at : ∀ {ds : List PyData} {i : Nat} {d : PyData}, ds[i]? = some d → d.depth ≤ PyData.depthAll ds
  | x :: xs, 0, d, e => by
    cases e
    exact Nat.le_max_left _ _
  | x :: xs, i + 1, d, e => Nat.le_trans (depth_at (ds := xs) e) (Nat.le_max_right _ _)
theorem dp_at {K : PySem.W.Frag} {H : Hp} : ∀ {xs : List V} {ds : List PyData} {i : Nat} {d : PyData}, DpAll K H xs ds → ds[i]? = some d → ∃ x, xs[i]? = some x ∧ Dp K H x d
  | _, _, 0, d, .cons h _, e => by
    cases e
    exact ⟨_, rfl, h⟩
  | _, _, i + 1, d, .cons _ t, e => dp_at (i := i) t e
theorem dp_len {K : PySem.W.Frag} {H : Hp} : ∀ {xs : List V} {ds : List PyData}, DpAll K H xs ds → xs.length = ds.length
  | _, _, .nil => rfl
  | _, _, .cons _ t => congrArg Nat.succ (dp_len t)
mutual
theorem Dp.same {K : PySem.W.Frag} {H H' : Hp} (s : Same H H') : ∀ {d : PyData} {x : V}, Dp K H x d → Dp K H' x d
  | .none, _, .non => .non
  | .bool b, _, .bl _ => .bl b
  | .int i, _, .int _ => .int i
  | .str x, _, .str _ => .str x
  | .list ds, _, .lst h a => .lst (s.seq h) (DpAll.same s a)
  | .tuple ds, _, .tup h a => .tup (by
      rcases h with (h | ⟨o, h⟩) | h
      · exact .inl (.inl (s _ _ h))
      · exact .inl (.inr ⟨o, s _ _ h⟩)
      · exact .inr h) (DpAll.same s a)
theorem DpAll.same {K : PySem.W.Frag} {H H' : Hp} (s : Same H H') : ∀ {ds : List PyData} {xs : List V}, DpAll K H xs ds → DpAll K H' xs ds
  | [], _, .nil => .nil
  | _ :: _, _, .cons h t => .cons (Dp.same s h) (DpAll.same s t)
end
theorem eqv_take : ∀ {ds es : List PyData} {i : Nat} {d e : PyData}, ds[i]? = some d → es[i]? = some e → PyData.eqvAll (ds.take (i + 1)) (es.take (i + 1)) = (PyData.eqvAll (ds.take i) (es.take i) && PyData.eqv d e)
  | x :: xs, y :: ys, 0, d, e, h1, h2 => by
    cases h1
    cases h2
    show (PyData.eqv x y && true) = (true && PyData.eqv x y)
    cases PyData.eqv x y <;> rfl
  | x :: xs, y :: ys, i + 1, d, e, h1, h2 => by
    show (PyData.eqv x y && PyData.eqvAll (xs.take (i + 1)) (ys.take (i + 1))) = ((PyData.eqv x y && PyData.eqvAll (xs.take i) (ys.take i)) && PyData.eqv d e)
    rw [eqv_take (ds := xs) (es := ys) (i := i) h1 h2, Bool.and_assoc]
theorem eqv_lens : ∀ {ds es : List PyData}, ds.length ≠ es.length → PyData.eqvAll ds es = false
  | [], [], h => absurd rfl h
  | [], _ :: _, _ => rfl
  | _ :: _, [], _ => rfl
  | x :: xs, y :: ys, h => by
    show (PyData.eqv x y && PyData.eqvAll xs ys) = false
    rw [eqv_lens (ds := xs) (es := ys) (fun z => h (congrArg Nat.succ z)), Bool.and_false]
theorem isi_of {K : PySem.W.Frag} {H : Hp} {x : V} {t n : String} {b : Bool} {Q : VK} (ty : TyX K H x (.type t)) (h : kitB t n = some b) (q : Q (.bl b) H) : rIsi K [x, .ty n] H Q :=
  ⟨x, .ty n, .type t, .type n, b, rfl, .ty n, ty, kit_ty h, q⟩
theorem ty_seq {K : PySem.W.Frag} {H : Hp} {a : Addr} {xs : List V} (h : SqL K H a xs) : TyX K H (.ref a) (.type "list") := by
  rcases h with (h | ⟨o, h⟩) | ⟨o, vs, m, h, hc, _⟩
  · exact .base (.lst h)
  · exact .base (.frz h)
  · exact .kList h hc
/-! ### the text of a list of ints -/
theorem heavy_ints : ∀ (ks : List Int), (∀ k ∈ ks, k.natAbs < 10 ^ 12) → PyData.weightAll (ks.map PyData.int) ≤ 64 * ks.length
  | [], _ => Nat.le_refl _
  | k :: ks, h => by
    have ih := heavy_ints ks fun x hx => h x (List.mem_cons_of_mem _ hx)
    have hk := h k (List.mem_cons_self ..)
    have w1 : PyData.weight (.int k) ≤ 41 := by
      show (if k == 0 then 0 else k.natAbs.log2 + 1) ≤ 41
      split
      · omega
      · have : k.natAbs.log2 < 40 := PySem.Flt.log2_lt_of (by decide) (Nat.lt_of_lt_of_le hk (by decide))
        omega
    show PyData.weight (.int k) + 1 + PyData.weightAll (ks.map PyData.int) ≤ 64 * (ks.length + 1)
    omega
theorem shows_ints : ∀ (ks : List Int), (∀ k ∈ ks, k.natAbs < 10 ^ 12) → PyData.showableAll (ks.map PyData.int) = true
  | [], _ => rfl
  | k :: ks, h => by
    have ih := shows_ints ks fun x hx => h x (List.mem_cons_of_mem _ hx)
    have hk := h k (List.mem_cons_self ..)
    have : k.natAbs.log2 < 40 := PySem.Flt.log2_lt_of (by decide) (Nat.lt_of_lt_of_le hk (by decide))
    show (decide (k.natAbs.log2 < 1920) && PyData.showableAll (ks.map PyData.int)) = true
    rw [ih, decide_eq_true (by omega)]
    rfl
theorem nodict_ints : ∀ (ks : List Int), PyData.hasDictAll (ks.map PyData.int) = false
  | [] => rfl
  | _ :: ks => nodict_ints ks
theorem short_ints {ks : List Int} (h : ∀ k ∈ ks, k.natAbs < 10 ^ 12) (hl : ks.length ≤ 1000) : (PyData.list (ks.map PyData.int)).shown.length ≤ sizeLine := by
  have w1 : PyData.weight (.list (ks.map PyData.int)) ≤ 64 * ks.length := heavy_ints ks h
  have lv := PyData.leavesShort_of_canLay0 13 (.list (ks.map PyData.int)) (lays_ints ks) (PyData.intsShortAll_ints ks h)
  refine PyData.shown_fits (B := 13) (by decide) (by decide) lv (Nat.le_trans w1 ?_)
  have e : (2 : Nat) ^ 20 = 1048576 := by decide
  omega
theorem dep40 (ks : List Int) : (PyData.list (ks.map PyData.int)).depth ≤ 40 := Nat.le_trans (Nat.add_le_add_right (deep_ints ks) 1) (by decide)
theorem shaped_il {d : PyData} (h : d.canLay0 = true) (h2 : d.depth ≤ 64) : SeqAt.shaped d = true := Bool.and_eq_true_iff.mpr ⟨h, decide_eq_true h2⟩
mutual
theorem il_lay : ∀ {d : PyData}, il d = true → d.canLay0 = true
  | .int _, _ => rfl
  | .list xs, h => ilAll_lay (Bool.and_eq_true_iff.mp h).2
  | .none, h => nomatch h
  | .bool _, h => nomatch h
  | .str _, h => nomatch h
  | .tuple _, h => nomatch h
  | .dict _, h => nomatch h
theorem ilAll_lay : ∀ {ds : List PyData}, ilAll ds = true → PyData.canLayAll0 ds = true
  | [], _ => rfl
  | _ :: _, h => Bool.and_eq_true_iff.mpr ⟨il_lay (Bool.and_eq_true_iff.mp h).1, ilAll_lay (Bool.and_eq_true_iff.mp h).2⟩
end
theorem KE_same {a b : List Int} (hp : a.Perm b) (ha : a.Pairwise (· ≤ ·)) (hb : b.Pairwise (· ≤ ·)) : a = b := hp.eq_of_pairwise (fun x y _ _ h1 h2 => Int.le_antisymm h1 h2) ha hb
theorem il_ints : ∀ (ks : List Int), ilAll (ks.map PyData.int) = true
  | [] => rfl
  | _ :: ks => il_ints ks
theorem eqv_refl' {d : PyData} (h : il d = true) : PyData.eqv d d = true := PySem.SeqAt.eqv_refl d (il_lay h)
end Sq
namespace Sq
open PySem PySem.Spec PyProof.Rows L2
/-! ### repr of any value whose data is known -/
structure Shown (K : PySem.W.Frag) (H : Hp) (x : V) (d : PyData) : Prop where
  dp : Dp K H x d
  sh : d.showable = true
  nd : d.hasDict = false
  dep : d.depth ≤ 40
  fit : d.shown.length ≤ sizeLine
theorem Shown.same {K : PySem.W.Frag} {H H' : Hp} {x : V} {d : PyData} (S : Shown K H x d) (s : Same H H') : Shown K H' x d := ⟨Dp.same s S.dp, S.sh, S.nd, S.dep, S.fit⟩
def rReprV (K : PySem.W.Frag) : List V → Hp → VK → Prop := fun xs H Q => ∃ x d, xs = [x] ∧ Shown K H x d ∧ Q (.str d.shown) H
theorem call_reprV {X : Cx} (hg : X.A.guards = some []) (hu : X.A.units + 64 < cLine) : CallR X (.builtin "repr") (rReprV X.K) := by
  intro pins s σ H xs us Q I r h
  obtain ⟨x, d, rfl, S, q⟩ := h
  obtain ⟨u, rfl, rv⟩ := vals1 r
  obtain ⟨dp, sh, nd, dep, fit⟩ := S
  cases dp with
  | non =>
    obtain rfl : u = Value.none := rv
    exact PySem.P.repr_of_none ⟨.str _, H, I.tok _, ⟨_, rfl⟩, q⟩
  | bl b =>
    obtain rfl : u = Value.bool b := rv
    exact PySem.P.repr_of_bool ⟨.str _, H, I.tok _, ⟨_, rfl⟩, q⟩
  | int i =>
    obtain ⟨t, rfl⟩ := rv
    exact PySem.P.repr_of_int (of_decide_eq_true sh) ⟨.str _, H, I.tok _, ⟨_, rfl⟩, q⟩
  | str y =>
    obtain ⟨t, rfl⟩ := rv
    exact PySem.P.repr_of_str ⟨.str _, H, I.tok _, ⟨_, rfl⟩, q⟩ fit
  | lst hs ha => exact call_reprD hg hu pins s σ H _ _ Q I r ⟨_, _, rfl, .lst hs ha, sh, nd, dep, fit, q⟩
  | tup hs ha => exact call_reprD hg hu pins s σ H _ _ Q I r ⟨_, _, rfl, .tup hs ha, sh, nd, dep, fit, q⟩
theorem fits40 {d : PyData} (h : d.leavesShort 40 = true) (hw : d.weight ≤ 100000) : d.shown.length ≤ sizeLine := by
  have e := PyData.shown_le 40 (by decide) d h
  rw [sizeLine_eq]
  omega
/-! ### powers of greater numbers -/
def CPowW (i j : Int) : Prop := 0 ≤ j ∧ (Builtin.Int.intBits i : Int) * j ≤ 2 ^ 27
theorem op_powW {X : Cx} : OpR X (binaryOp .Pow) (rI CPowW fun i j => .int (i ^ j.toNat)) := opI fun _ _ _ _ _ _ _ hc q => pow_int hc.1 hc.2 q
theorem powW_of {i j : Int} {m : Nat} (h0 : 0 ≤ j) (hi : i.natAbs < 2 ^ m) (hm : 0 < m) (hj : (m : Int) * j ≤ 2 ^ 27) : CPowW i j := by
  refine ⟨h0, Int.le_trans (Int.mul_le_mul_of_nonneg_right ?_ h0) hj⟩
  unfold Builtin.Int.intBits
  split
  · omega
  · have := PySem.Flt.log2_lt_of hm hi
    omega
end Sq
namespace Sq
open PySem PySem.Spec PyProof.Rows L2
def rMulS : R2 := fun x y H Q => ∃ a n, x = .str a ∧ y = .int n ∧ _root_.PySem.MulOk a n ∧ Q (.str (_root_.PySem.Txt.mul a n)) H
theorem op_mulS {X : Cx} : OpR X (binaryOp .Mult) rMulS := by
  intro pins s σ H x y v u Q I rx ry h
  obtain ⟨a, n, rfl, rfl, hok, q⟩ := h
  obtain ⟨t, rfl⟩ := rx
  obtain ⟨t', rfl⟩ := ry
  exact SB.mul hok fun t2 k => ⟨.str _, H, I.tok k, ⟨_, rfl⟩, q⟩
end Sq

set_option Elab.async false
set_option linter.all false
/-! Squeezing and reaches in plain Lean. -/
namespace Sq
def once (n k : Int) : Int := n / k + n % k
def sq (n : Int) (ks : List Int) : Int := ks.foldl once n
def rw1 (k R : Int) : Int := if k > R + 1 then R else (R + 3 - k) * k - 2
def rch (ks : List Int) (v : Int) : Int := ks.foldr rw1 v

theorem rw1_pos {k R : Int} (hk : 2 ≤ k) (hR : 1 ≤ R) : 1 ≤ rw1 k R := by
  unfold rw1
  split
  · exact hR
  · have h : 2 * 2 ≤ (R + 3 - k) * k := Int.mul_le_mul (by omega) hk (by omega) (by omega)
    omega

theorem once_small {k n : Int} (h0 : 0 ≤ n) (h : n < k) : once n k = n := by
  unfold once
  rw [Int.ediv_eq_zero_of_lt h0 h, Int.emod_eq_of_lt h0 h]
  omega

theorem once_nonneg {k n : Int} (hk : 2 ≤ k) (h0 : 0 ≤ n) : 0 ≤ once n k := by
  unfold once
  have h1 := Int.ediv_nonneg h0 (by omega : 0 ≤ k)
  have h2 := Int.emod_nonneg n (by omega : k ≠ 0)
  omega

theorem once_le {k R n : Int} (hk : 2 ≤ k) (hR : 1 ≤ R) (h0 : 0 ≤ n) (h : n ≤ rw1 k R) : once n k ≤ R := by
  unfold rw1 at h
  split at h
  · rename_i hg
    rw [once_small h0 (by omega)]
    exact h
  · rename_i hg
    unfold once
    have e := Int.mul_ediv_add_emod n k
    have r0 := Int.emod_nonneg n (by omega : k ≠ 0)
    have r1 := Int.emod_lt_of_pos n (by omega : 0 < k)
    generalize n / k = q at *
    generalize n % k = r at *
    by_cases c : q + r ≤ R
    · exact c
    · exfalso
      by_cases c2 : R + 3 - k ≤ q
      · have := Int.mul_le_mul_of_nonneg_left c2 (by omega : 0 ≤ k)
        rw [Int.mul_comm k (R + 3 - k)] at this
        omega
      · have c3 : q = R + 2 - k := by omega
        have c4 : r = k - 1 := by omega
        have e2 : k * (R + 2 - k) = (R + 3 - k) * k - k := by
          rw [show R + 2 - k = (R + 3 - k) - 1 by omega, Int.mul_sub, Int.mul_one, Int.mul_comm]
        rw [c3, e2] at e
        omega

theorem once_next {k R : Int} (hk : 2 ≤ k) (hR : 1 ≤ R) : once (rw1 k R + 1) k = R + 1 := by
  unfold rw1
  split
  · exact once_small (by omega) (by omega)
  · have e : (R + 3 - k) * k - 2 + 1 = (k - 1) + k * (R + 2 - k) := by
      rw [show R + 2 - k = (R + 3 - k) - 1 by omega, Int.mul_sub, Int.mul_one, Int.mul_comm k]
      omega
    unfold once
    rw [e, Int.add_mul_ediv_left _ _ (by omega : k ≠ 0), Int.add_mul_emod_self_left, Int.ediv_eq_zero_of_lt (by omega) (by omega), Int.emod_eq_of_lt (by omega) (by omega)]
    omega

theorem rch_pos : ∀ (ks : List Int) (v : Int), (∀ k ∈ ks, 2 ≤ k) → 1 ≤ v → 1 ≤ rch ks v
  | [], v, _, hv => hv
  | k :: ks, v, h, hv => rw1_pos (h k (List.mem_cons_self ..)) (rch_pos ks v (fun x hx => h x (List.mem_cons_of_mem _ hx)) hv)

theorem sq_le : ∀ (ks : List Int) (v n : Int), (∀ k ∈ ks, 2 ≤ k) → 1 ≤ v → 0 ≤ n → n ≤ rch ks v → sq n ks ≤ v
  | [], v, n, _, _, _, hn => hn
  | k :: ks, v, n, h, hv, h0, hn =>
    have hk := h k (List.mem_cons_self ..)
    have ht : ∀ x ∈ ks, 2 ≤ x := fun x hx => h x (List.mem_cons_of_mem _ hx)
    sq_le ks v (once n k) ht hv (once_nonneg hk h0) (once_le hk (rch_pos ks v ht hv) h0 hn)

theorem sq_next : ∀ (ks : List Int) (v : Int), (∀ k ∈ ks, 2 ≤ k) → 1 ≤ v → sq (rch ks v + 1) ks = v + 1
  | [], v, _, _ => rfl
  | k :: ks, v, h, hv => by
    have hk := h k (List.mem_cons_self ..)
    have ht : ∀ x ∈ ks, 2 ≤ x := fun x hx => h x (List.mem_cons_of_mem _ hx)
    show sq (once (rw1 k (rch ks v) + 1) k) ks = v + 1
    rw [once_next hk (rch_pos ks v ht hv)]
    exact sq_next ks v ht hv

theorem rch_mono {ks : List Int} {v u : Int} (h : ∀ k ∈ ks, 2 ≤ k) (hv : 1 ≤ v) (hu : v ≤ u) : rch ks v ≤ rch ks u := by
  by_cases c : rch ks v ≤ rch ks u
  · exact c
  · exfalso
    have p := rch_pos ks u h (by omega)
    have a := sq_le ks v (rch ks u + 1) h hv (by omega) (by omega)
    rw [sq_next ks u h (by omega)] at a
    omega

/-- the least run with more characters is found by trying -/
theorem sq_gt {ks : List Int} {v n : Int} (h : ∀ k ∈ ks, 2 ≤ k) (hv : 1 ≤ v) (h0 : 0 ≤ n) (h1 : n ≤ rch ks v + 1) (c : v < sq n ks) : n = rch ks v + 1 := by
  by_cases d : n ≤ rch ks v
  · have := sq_le ks v n h hv h0 d
    omega
  · omega
theorem sq_lt {ks : List Int} {v n : Int} (h : ∀ k ∈ ks, 2 ≤ k) (hv : 1 ≤ v) (h1 : n ≤ rch ks v + 1) (c : sq n ks ≤ v) : n ≤ rch ks v := by
  by_cases d : n ≤ rch ks v
  · exact d
  · have e : n = rch ks v + 1 := by omega
    rw [e, sq_next ks v h hv] at c
    omega
theorem sq_concat (n : Int) (ks : List Int) (k : Int) : sq n (ks ++ [k]) = once (sq n ks) k := by
  unfold sq
  rw [List.foldl_append]
  rfl
end Sq

set_option Elab.async false
set_option linter.all false
set_option maxRecDepth 100000
set_option maxHeartbeats 2000000
/-! What the laws share: the built-in names, the error classes, low numbers, data that can be shown, keeping heaps. -/
namespace Sq
open PySem PySem.Spec PyProof.Rows L2
structure Bi (mg : Str → Option Value) : Prop where
  n_len : mg "len" = none
  n_min : mg "min" = none
  n_max : mg "max" = none
  n_abs : mg "abs" = none
  n_range : mg "range" = none
  n_isinstance : mg "isinstance" = none
  n_repr : mg "repr" = none
  n_enumerate : mg "enumerate" = none
  n_reversed : mg "reversed" = none
  n_sorted : mg "sorted" = none
  n_bool : mg "bool" = none
  n_int : mg "int" = none
  n_str : mg "str" = none
  n_list : mg "list" = none
  n_tuple : mg "tuple" = none
  n_set : mg "set" = none
  n_sum : mg "sum" = none
  n_zip : mg "zip" = none
  n_all : mg "all" = none
  n_any : mg "any" = none
  n_ValueError : mg "ValueError" = none
  n_divmod : mg "divmod" = none
structure Errs (P : Program) (K : PySem.W.Frag) (mg : Str → Option Value) (c fI : Nat → Addr) (qn : Nat → Str) (cB : Addr) : Prop where
  er : ∀ n, n < 5 → True ∧ SqX.Er K P (c n) (fI n) (qn n)
  g0 : mg "InvalidList" = some (.ref (c 0))
  g1 : mg "InvalidNumber" = some (.ref (c 1))
  g2 : mg "InvalidCharacter" = some (.ref (c 2))
  g3 : mg "NothingToUndo" = some (.ref (c 3))
  g4 : mg "Unreadable" = some (.ref (c 4))
  g5 : mg "SqueezeError" = some (.ref cB)
  is : ∀ n m, n < 5 → m < 5 → PySem.W.kitOne K (.ref (c n)) (.ref (c m)) = some (decide (n = m))
  isB : ∀ n, n < 5 → PySem.W.kitOne K (.ref (c n)) (.ref cB) = some true
  isV : ∀ n, n < 5 → PySem.W.kitOne K (.ref (c n)) (.type "ValueError") = some true
  ex : ∀ n, n < 5 → ExcC K (c n)
  xf : ∀ n, n < 5 → XfC K (c n)
/-- what else is known of the error classes -/
structure Errs2 (K : PySem.W.Frag) (c : Nat → Addr) (cB : Addr) : Prop where
  ma : ∀ n, n < 5 → PySem.W.exmOne K (.ref (c n)) (.ref cB) = some true
  st : ∀ n, n < 5 → PySem.W.subIn K (.ref (c n)) (.type "StopIteration") = some false
  nv : ∀ n, n < 5 → PySem.W.findIn K (.ref (c n)) "value" = some none
def nmE (n : Nat) : Str := ["InvalidList", "InvalidNumber", "InvalidCharacter", "NothingToUndo", "Unreadable"].getD n "InvalidList"
/-- the first number less than 2 -/
def lowAt : List Int → Option Nat
  | [] => none
  | k :: ks => if k < 2 then some 0 else (lowAt ks).map (· + 1)
theorem lowAt_none : ∀ {ks : List Int}, lowAt ks = none → ∀ k ∈ ks, 2 ≤ k
  | k :: ks, h, x, hx => by
    unfold lowAt at h
    by_cases c : k < 2
    · rw [if_pos c] at h
      cases h
    · rw [if_neg c] at h
      rcases List.mem_cons.mp hx with e | e
      · omega
      · cases q : lowAt ks with
        | none => exact lowAt_none q x e
        | some j => rw [q] at h; cases h
theorem lowAt_take : ∀ (ks : List Int) (i : Nat), (∀ k ∈ ks.take i, 2 ≤ k) → (∀ k, ks[i]? = some k → k < 2 → lowAt ks = some i) ∧ (ks.length ≤ i → lowAt ks = none)
  | [], i, _ => ⟨fun k e => by simp at e, fun _ => rfl⟩
  | k :: ks, 0, _ => ⟨fun x e c => by
      cases e
      show (if k < 2 then some 0 else (lowAt ks).map (· + 1)) = some 0
      rw [if_pos c], fun z => by simp at z⟩
  | k :: ks, i + 1, h => by
    have hk := h k (by simp)
    obtain ⟨a, b⟩ := lowAt_take ks i fun x hx => h x (by simp [hx])
    refine ⟨fun x e c => ?_, fun z => ?_⟩
    · show (if k < 2 then some 0 else (lowAt ks).map (· + 1)) = some (i + 1)
      rw [if_neg (by omega), a x e c]
      rfl
    · show (if k < 2 then some 0 else (lowAt ks).map (· + 1)) = none
      rw [if_neg (by omega), b (by simpa using z)]
      rfl
/-! ### data that can be shown -/
structure Gd (n : Nat) (d : PyData) : Prop where
  sh : d.showable = true
  nd : d.hasDict = false
  dep : d.depth ≤ 4
  lf : d.leavesShort 40 = true
  wt : d.weight ≤ n
structure GdA (n : Nat) (ds : List PyData) : Prop where
  sh : PyData.showableAll ds = true
  nd : PyData.hasDictAll ds = false
  dep : PyData.depthAll ds ≤ 3
  lf : PyData.leavesShortAll 40 ds = true
  wt : PyData.weightAll ds ≤ n
theorem gd_int {i : Int} (h : i.natAbs < 10 ^ 31) : Gd 121 (.int i) := by
  have lg : i.natAbs.log2 < 120 := PySem.Flt.log2_lt_of (by decide) (Nat.lt_of_lt_of_le h (by decide))
  refine ⟨decide_eq_true (Nat.lt_trans lg (by decide)), rfl, Nat.zero_le _, ?_, ?_⟩
  · have e := int_text_length_le10 (k := 31) (by decide) h
    refine decide_eq_true ?_
    show (Str.ofString (toString i)).length ≤ 40
    rw [PySem.ofString_length]
    omega
  · show (if i == 0 then 0 else i.natAbs.log2 + 1) ≤ 121
    split <;> omega
theorem GdA.nil : GdA 0 [] := ⟨rfl, rfl, Nat.zero_le _, rfl, Nat.le_refl _⟩
theorem GdA.cons {n m : Nat} {d : PyData} {ds : List PyData} (h : Gd n d) (dp : d.depth ≤ 3) (t : GdA m ds) : GdA (n + 1 + m) (d :: ds) := by
  refine ⟨?_, ?_, Nat.max_le.mpr ⟨dp, t.dep⟩, ?_, ?_⟩
  · show (d.showable && PyData.showableAll ds) = true
    rw [h.sh, t.sh]; rfl
  · show (d.hasDict || PyData.hasDictAll ds) = false
    rw [h.nd, t.nd]; rfl
  · show (d.leavesShort 40 && PyData.leavesShortAll 40 ds) = true
    rw [h.lf, t.lf]; rfl
  · have a := h.wt
    have b := t.wt
    show d.weight + 1 + PyData.weightAll ds ≤ n + 1 + m
    omega
theorem GdA.list {n : Nat} {ds : List PyData} (t : GdA n ds) : Gd n (.list ds) := ⟨t.sh, t.nd, Nat.add_le_add_right t.dep 1, t.lf, t.wt⟩
theorem Gd.le {n m : Nat} {d : PyData} (h : Gd n d) (l : n ≤ m) : Gd m d := ⟨h.sh, h.nd, h.dep, h.lf, Nat.le_trans h.wt l⟩
theorem gda_ints : ∀ (ks : List Int), (∀ k ∈ ks, k.natAbs < 10 ^ 31) → GdA (122 * ks.length) (ks.map PyData.int) ∧ PyData.depthAll (ks.map PyData.int) ≤ 0
  | [], _ => ⟨GdA.nil, Nat.le_refl _⟩
  | k :: ks, h => by
    obtain ⟨a, b⟩ := gda_ints ks fun x hx => h x (List.mem_cons_of_mem _ hx)
    refine ⟨?_, Nat.max_le.mpr ⟨Nat.zero_le _, b⟩⟩
    have c := GdA.cons (gd_int (h k (List.mem_cons_self ..))) (Nat.zero_le _) a
    rw [List.length_cons, Nat.mul_add, Nat.mul_one, Nat.add_comm (122 * ks.length)]
    exact c
theorem Gd.shown {n : Nat} {K : PySem.W.Frag} {H : Hp} {x : V} {d : PyData} (h : Gd n d) (l : n ≤ 100000) (dp : Dp K H x d) : Shown K H x d :=
  ⟨dp, h.sh, h.nd, Nat.le_trans h.dep (by decide), fits40 h.lf (Nat.le_trans h.wt l)⟩
/-! ### the low numbers -/
theorem lowAt_some : ∀ {ks : List Int} {j : Nat}, lowAt ks = some j → j < ks.length ∧ ks.getD j 2 < 2 ∧ ∀ m, m < j → 2 ≤ ks.getD m 2
  | k :: ks, j, h => by
    have h' : (if k < 2 then some 0 else (lowAt ks).map (· + 1)) = some j := h
    by_cases c : k < 2
    · rw [if_pos c] at h'
      cases h'
      exact ⟨Nat.succ_pos _, c, fun m hm => absurd hm (Nat.not_lt_zero _)⟩
    · rw [if_neg c] at h'
      cases q : lowAt ks with
      | none => rw [q] at h'; cases h'
      | some i =>
        rw [q] at h'
        cases h'
        obtain ⟨a, b, d⟩ := lowAt_some q
        refine ⟨Nat.succ_lt_succ a, b, fun m hm => ?_⟩
        cases m with
        | zero => show 2 ≤ k; omega
        | succ m => exact d m (Nat.lt_of_succ_lt_succ hm)
def lowIx (ks : List Int) (i : Nat) : List Int := ((List.range i).filter fun j => decide (ks.getD j 2 < 2)).map fun j : Nat => (j : Int)
theorem lowIx_succ (ks : List Int) (i : Nat) : lowIx ks (i + 1) = if ks.getD i 2 < 2 then lowIx ks i ++ [(i : Int)] else lowIx ks i := by
  unfold lowIx
  rw [List.range_succ, List.filter_append, List.map_append]
  by_cases h : ks.getD i 2 < 2
  · have e : [i].filter (fun j => decide (ks.getD j 2 < 2)) = [i] := by
      rw [List.filter_cons, decide_eq_true h]
      rfl
    rw [if_pos h, e]
    rfl
  · have e : [i].filter (fun j => decide (ks.getD j 2 < 2)) = [] := by
      rw [List.filter_cons, decide_eq_false h]
      rfl
    rw [if_neg h, e]
    exact List.append_nil _
theorem lowIx_len (ks : List Int) (i : Nat) : (lowIx ks i).length ≤ i := by
  unfold lowIx
  rw [List.length_map]
  have := List.length_filter_le (fun j => decide (ks.getD j 2 < 2)) (List.range i)
  rwa [List.length_range] at this
theorem lowIx_none {ks : List Int} : ∀ {i : Nat}, (∀ m, m < i → 2 ≤ ks.getD m 2) → lowIx ks i = []
  | 0, _ => rfl
  | i + 1, h => by
    rw [lowIx_succ, if_neg (by have := h i (by omega); omega)]
    exact lowIx_none fun m hm => h m (by omega)
theorem lowIx_head {ks : List Int} {j : Nat} (a : ks.getD j 2 < 2) (b : ∀ m, m < j → 2 ≤ ks.getD m 2) : ∀ {i : Nat}, j < i → ∃ r, lowIx ks i = (j : Int) :: r
  | i + 1, h => by
    rw [lowIx_succ]
    by_cases e : j = i
    · subst e
      rw [if_pos a, lowIx_none b]
      exact ⟨[], rfl⟩
    · obtain ⟨r, hr⟩ := lowIx_head a b (i := i) (by omega)
      rw [hr]
      split
      · exact ⟨_, rfl⟩
      · exact ⟨_, rfl⟩
theorem low_none {ks : List Int} (h : lowAt ks = none) : lowIx ks ks.length = [] := lowIx_none fun m hm => by
  have : ∀ {ks : List Int} {m : Nat}, lowAt ks = none → 2 ≤ ks.getD m 2 := fun {ks} => by
    induction ks with
    | nil => intro m _; cases m <;> exact Int.le_refl _
    | cons k ks ih =>
      intro m h
      have h' : (if k < 2 then some 0 else (lowAt ks).map (· + 1)) = none := h
      by_cases c : k < 2
      · rw [if_pos c] at h'; cases h'
      · rw [if_neg c] at h'
        have h2 : lowAt ks = none := by
          cases q : lowAt ks with
          | none => rfl
          | some i => rw [q] at h'; cases h'
        cases m with
        | zero => show 2 ≤ k; omega
        | succ m => exact ih h2
  exact this h
theorem low_some {ks : List Int} {j : Nat} (h : lowAt ks = some j) : ∃ r, lowIx ks ks.length = (j : Int) :: r := by
  obtain ⟨a, b, c⟩ := lowAt_some h
  exact lowIx_head b c a
/-- the heap without one cell -/
def wo (H : Hp) (D : Addr) : Hp := fun b => if b = D then none else H b
theorem wo_upd {H : Hp} {D : Addr} {o : HO} : wo (upd H D o) D = wo H D := by
  funext b
  unfold wo
  by_cases h : b = D
  · rw [if_pos h, if_pos h]
  · rw [if_neg h, if_neg h, upd_ne h]
theorem wo_ne {H : Hp} {D b : Addr} (h : b ≠ D) : wo H D b = H b := by
  unfold wo
  rw [if_neg h]
theorem wo_same {H : Hp} {D : Addr} : Same (wo H D) H := fun b o e => by
  unfold wo at e
  by_cases h : b = D
  · rw [if_pos h] at e; cases e
  · rw [if_neg h] at e; exact e
theorem same_wo {G H : Hp} {D : Addr} (s : Same G H) (h : G D = none) : Same G (wo H D) := fun b o e => by
  rw [wo_ne (fun z => by subst z; rw [h] at e; cases e)]
  exact s b o e
theorem wo_self {H : Hp} {D : Addr} : wo H D D = none := by
  unfold wo
  rw [if_pos rfl]
theorem dp_snoc {K : PySem.W.Frag} {H : Hp} {v : V} {d : PyData} (h : Dp K H v d) : ∀ {xs : List V} {ds : List PyData}, DpAll K H xs ds → DpAll K H (xs ++ [v]) (ds ++ [d])
  | _, _, .nil => .cons h .nil
  | _, _, .cons a t => .cons a (dp_snoc h t)
end Sq

set_option Elab.async false
set_option linter.all false
set_option maxHeartbeats 1000000
/-! Small numbers as texts. -/
namespace Sq
open PySem PySem.Spec PyProof.Rows L2
theorem digN {i : Int} (a : 0 ≤ i) (b : i ≤ 200) : (Str.ofString (toString i)).length ≤ 40 := by
  have e := int_text_length_le10 (k := 31) (by decide) (show i.natAbs < 10 ^ 31 from Nat.lt_of_le_of_lt (m := 200) (by omega) (by decide))
  rw [PySem.ofString_length]
  omega
theorem catN (x y : Str) (n : Nat) (hx : x.length ≤ n) (hy : y.length ≤ 40) : (x ++ y).length ≤ n + 40 := by
  rw [strLen_append]
  omega
theorem fitN {x y : Str} (hx : x.length ≤ 400) (hy : y.length ≤ 400) : x.length + y.length ≤ sizeLine := by
  rw [sizeLine_eq]
  omega
theorem logN (i : Int) (a : 0 ≤ i) (b : i ≤ 200) : i.natAbs.log2 < 1920 := Nat.lt_trans (PySem.Flt.log2_lt_of (by decide) (show i.natAbs < 2 ^ 8 by omega)) (by decide)
theorem rep_one {α : Type} (x : α) : ∀ n : Nat, (List.replicate n [x]).flatten = List.replicate n x
  | 0 => rfl
  | n + 1 => by
    rw [List.replicate_succ, List.flatten_cons, rep_one x n, List.replicate_succ]
    rfl
end Sq

set_option Elab.async false
set_option linter.all false
set_option maxRecDepth 100000
set_option maxHeartbeats 1000000
/-! Texts of lists, read: in plain Lean, over the lists of signs. -/
namespace Sq
open PySem PySem.Spec PyProof.Rows L2 TL
open NumText (digitsVal AllDigits)
def digB (l : List Nat) : Bool := l.all fun c => decide (48 ≤ c) && decide (c ≤ 57)
def numOk (l : List Nat) : Bool := digB l && (!l.isEmpty && (decide (l.length ≤ 200) && (decide (l.head? ≠ some 48) && decide (l ≠ [49]))))
def rPart (l : List Nat) : Option (Nat × Nat) :=
  match par [94] [] l with
  | none => if numOk l = true then some (digitsVal l, 1) else none
  | some (a, b) => if (numOk a && numOk b) = true then some (digitsVal a, digitsVal b) else none
def rStep (F : List Int) (l : List Nat) : Option (List Int) :=
  match rPart l with
  | none => none
  | some (n, k) => if F.getLast? = some (n : Int) then none else some (F ++ List.replicate k (n : Int))
def rAll : List Int → List (List Nat) → Option (List Int)
  | F, [] => some F
  | F, l :: r => match rStep F l with
    | none => none
    | some F' => rAll F' r
def rText (l : List Nat) : Option (List Int) := if l = [110, 111, 110, 101] then some [] else rAll [] (spl [44, 32] 0 [] l)
/-- no part stands for more than a thousand numbers -/
def Small (l : List Nat) : Prop := ∀ p ∈ spl [44, 32] 0 [] l, ∀ n k, rPart p = some (n, k) → k ≤ 1000
theorem all_tl (x : Str) (f : Nat → Bool) : x.cps.all f = (tl x).all f := by
  show x.cps.all f = x.cps.toList.all f
  rw [Array.all_toList]
theorem dig_of : ∀ n : _root_.Fin 128, Unicode.isDigit n.val = (decide (48 ≤ n.val) && decide (n.val ≤ 57)) := by decide +kernel
theorem asc_dig (x : Str) : (Txt.isascii x && Txt.isdigit x) = (digB (tl x) && !(tl x).isEmpty) := by
  show (x.cps.all (· < 128) && (decide (x.length > 0) && x.cps.all Unicode.isDigit)) = _
  rw [all_tl, all_tl, len_tl]
  have key : ∀ l : List Nat, (l.all (· < 128) && l.all Unicode.isDigit) = digB l := fun l => by
    induction l with
    | nil => rfl
    | cons c l ih =>
      show ((decide (c < 128) && l.all (· < 128)) && (Unicode.isDigit c && l.all Unicode.isDigit)) = ((decide (48 ≤ c) && decide (c ≤ 57)) && digB l)
      rw [← ih]
      by_cases h : c < 128
      · rw [decide_eq_true h, dig_of ⟨c, h⟩]
        cases l.all (· < 128) <;> cases l.all Unicode.isDigit <;> simp
      · have h2 : ¬ c ≤ 57 := by omega
        rw [decide_eq_false h, decide_eq_false h2]
        simp
  rw [← key]
  cases tl x with
  | nil => rfl
  | cons c l =>
    cases ((c :: l).all (· < 128)) <;> cases ((c :: l).all Unicode.isDigit) <;> simp
theorem digB_all {l : List Nat} : digB l = true ↔ AllDigits l := by
  unfold digB AllDigits
  rw [List.all_eq_true]
  constructor
  · intro h c hc
    have := h c hc
    simp only [Bool.and_eq_true, decide_eq_true_eq] at this
    exact this
  · intro h c hc
    have := h c hc
    simp only [Bool.and_eq_true, decide_eq_true_eq]
    exact this
theorem numOk_iff {l : List Nat} : numOk l = true ↔ AllDigits l ∧ l ≠ [] ∧ l.length ≤ 200 ∧ l.head? ≠ some 48 ∧ l ≠ [49] := by
  unfold numOk
  simp only [Bool.and_eq_true, decide_eq_true_eq, digB_all, Bool.not_eq_true', List.isEmpty_eq_false_iff]
/-- int(..) of such signs -/
theorem int_ok {x : Str} (h : numOk (tl x) = true) : intText? x = some ((digitsVal (tl x) : Nat) : Int) ∧ x.length ≤ 640 := by
  obtain ⟨a, b, c, _⟩ := numOk_iff.mp h
  have l : x.length = (tl x).length := len_tl x
  exact ⟨intText_digits a b (by omega), by omega⟩
end Sq
namespace Sq
open PySem PySem.Spec PyProof.Rows L2 TL
open NumText (digitsVal AllDigits)
theorem signs_hat : tl ("^" : Str) = [94] := by decide +kernel
theorem signs_sep : tl (", " : Str) = [44, 32] := by decide +kernel
theorem split_sep (x : Str) : (Txt.split x ", ").map tl = spl [44, 32] 0 [] (tl x) := by
  have e := split_spl x ", " (by rw [signs_sep]; simp) (kind_ok (by decide +kernel))
  rw [signs_sep] at e
  exact e
/-- a readable part, cut at its first ^ -/
theorem part_cut {y : Str} {n k : Nat} (h : rPart (tl y) = some (n, k)) : ∃ D M N : Str, Txt.partition y "^" = (D, M, N) ∧ numOk (tl D) = true ∧ n = digitsVal (tl D) ∧
    ((M.length = 0 ∧ k = 1) ∨ (M.length = 1 ∧ numOk (tl N) = true ∧ k = digitsVal (tl N))) := by
  have e := partition_par y "^" (by rw [signs_hat]; simp)
  rw [signs_hat] at e
  unfold rPart at h
  cases hp : par [94] [] (tl y) with
  | none =>
    rw [hp] at h e
    have h' : (if numOk (tl y) = true then some (digitsVal (tl y), 1) else none) = some (n, k) := h
    by_cases c : numOk (tl y) = true
    · rw [if_pos c] at h'
      cases h'
      exact ⟨y, Str.empty, Str.empty, e, c, rfl, .inl ⟨rfl, rfl⟩⟩
    · rw [if_neg c] at h'
      cases h'
  | some ab =>
    obtain ⟨a, b⟩ := ab
    rw [hp] at h e
    have h' : (if (numOk a && numOk b) = true then some (digitsVal a, digitsVal b) else none) = some (n, k) := h
    by_cases c : (numOk a && numOk b) = true
    · rw [if_pos c] at h'
      cases h'
      rw [Bool.and_eq_true] at c
      exact ⟨⟨a.toArray⟩, "^", ⟨b.toArray⟩, e, c.1, rfl, .inr ⟨by decide +kernel, c.2, rfl⟩⟩
    · rw [if_neg c] at h'
      cases h'
theorem rStep_some {F F' : List Int} {l : List Nat} (h : rStep F l = some F') : ∃ n k, rPart l = some (n, k) ∧ F.getLast? ≠ some (n : Int) ∧ F' = F ++ List.replicate k (n : Int) := by
  unfold rStep at h
  cases hp : rPart l with
  | none => rw [hp] at h; cases h
  | some nk =>
    obtain ⟨n, k⟩ := nk
    rw [hp] at h
    have h' : (if F.getLast? = some (n : Int) then none else some (F ++ List.replicate k (n : Int))) = some F' := h
    by_cases c : F.getLast? = some (n : Int)
    · rw [if_pos c] at h'; cases h'
    · rw [if_neg c] at h'
      cases h'
      exact ⟨n, k, rfl, c, rfl⟩
theorem rAll_cons {F ks : List Int} {l : List Nat} {r : List (List Nat)} (h : rAll F (l :: r) = some ks) : ∃ F', rStep F l = some F' ∧ rAll F' r = some ks := by
  have h' : (match rStep F l with | none => none | some F' => rAll F' r) = some ks := h
  cases hp : rStep F l with
  | none => rw [hp] at h'; cases h'
  | some F' => rw [hp] at h'; exact ⟨F', rfl, h'⟩
theorem spl_len (S : List Nat) : ∀ (k : Nat) (acc l : List Nat), (spl S k acc l).length ≤ l.length + 1
  | k, acc, [] => by rw [spl_nil]; simp
  | 0, acc, c :: r => by
    show (if pre S (c :: r) = true then acc :: spl S (S.length - 1) [] r else spl S 0 (acc ++ [c]) r).length ≤ _
    split
    · have := spl_len S (S.length - 1) [] r
      simp only [List.length_cons]
      omega
    · have := spl_len S 0 (acc ++ [c]) r
      simp only [List.length_cons]
      omega
  | k + 1, acc, c :: r => by
    show (spl S k acc r).length ≤ _
    have := spl_len S k acc r
    simp only [List.length_cons]
    omega
theorem str_at {ys : List Str} {i : Nat} {v : V} (h : (ys.map V.str)[i]? = some v) : ∃ y, ys[i]? = some y ∧ v = .str y := by
  rw [List.getElem?_map] at h
  cases e : ys[i]? with
  | none => rw [e] at h; cases h
  | some y => rw [e] at h; exact ⟨y, rfl, (Option.some.inj h).symm⟩
theorem spl_mem (S : List Nat) : ∀ (k : Nat) (acc l : List Nat), ∀ q ∈ spl S k acc l, q.length ≤ acc.length + l.length
  | k, acc, [] => by
    rw [spl_nil]
    intro q hq
    rw [List.mem_singleton.mp hq]
    exact Nat.le_add_right _ _
  | 0, acc, c :: r => by
    show ∀ q ∈ (if pre S (c :: r) = true then acc :: spl S (S.length - 1) [] r else spl S 0 (acc ++ [c]) r), _
    split
    · intro q hq
      rcases List.mem_cons.mp hq with z | z
      · rw [z]
        exact Nat.le_add_right _ _
      · have := spl_mem S (S.length - 1) [] r q z
        simp only [List.length_nil, List.length_cons] at this ⊢
        omega
    · intro q hq
      have := spl_mem S 0 (acc ++ [c]) r q hq
      simp only [List.length_append, List.length_cons, List.length_nil] at this ⊢
      omega
  | k + 1, acc, c :: r => by
    intro q hq
    have := spl_mem S k acc r q hq
    simp only [List.length_cons]
    omega
theorem atI_lst {α : Type} (xs : List α) (v : α) (h : xs.getLast? = some v) : atI xs (-1) = some v := by
  rcases List.eq_nil_or_concat xs with e | ⟨ys, z, e⟩
  · rw [e] at h
    cases h
  · rw [e, List.concat_eq_append] at h ⊢
    rw [List.getLast?_concat] at h
    cases h
    exact L2.atI_last ys _
theorem z0L : 0 ≤ sizeLine := Nat.zero_le _
end Sq

set_option Elab.async false
set_option linter.all false
set_option maxRecDepth 100000
set_option maxHeartbeats 1000000
/-! What is written is read. -/
namespace Sq
open PySem PySem.Spec PyProof.Rows L2 TL
open NumText (digitsVal AllDigits)
theorem numL_head : ∀ n : Nat, 1 ≤ n → (numL n).head? ≠ some 48 := fun n => by
  induction n using Nat.strongRecOn with
  | _ n ih =>
    intro h
    by_cases c : n < 10
    · rw [numL_lt c]
      intro z
      have := Option.some.inj z
      omega
    · rw [numL_step (by omega)]
      have a := ih (n / 10) (by omega) (by omega)
      cases e : numL (n / 10) with
      | nil => exact absurd e (numL_ne _)
      | cons x r =>
        rw [e] at a
        exact a
theorem numOk_num {n : Nat} (h : 2 ≤ n) (l : (numL n).length ≤ 200) : numOk (numL n) = true :=
  numOk_iff.mpr ⟨numL_digits n, numL_ne n, l, numL_head n (by omega), fun z => by
    have e : numL n = numL 1 := by rw [z]; rfl
    have := numL_inj e
    omega⟩
def pL (n k : Nat) : List Nat := numL n ++ (if k = 1 then [] else 94 :: numL k)
structure PartOk (p : Nat × Nat) : Prop where
  two : 2 ≤ p.1
  one : 1 ≤ p.2
  len : (numL p.1).length ≤ 200
  few : p.2 ≤ 1000
theorem len_few {k : Nat} (h : k ≤ 1000) : (numL k).length ≤ 200 := by
  have := numL_len (n := k) (k := 4) (by decide) (by omega)
  omega
theorem rPart_pL {p : Nat × Nat} (h : PartOk p) : rPart (pL p.1 p.2) = some (p.1, p.2) := by
  unfold rPart pL
  have free : 94 ∉ numL p.1 := numL_free (.inr (by decide))
  by_cases c : p.2 = 1
  · rw [if_pos c, List.append_nil, par_none1 free]
    show (if numOk (numL p.1) = true then some (digitsVal (numL p.1), 1) else none) = _
    rw [if_pos (numOk_num h.two h.len), numL_val, c]
  · rw [if_neg c]
    have e := par_part1 (s := 94) (S := []) (p := numL p.1) (rest := numL p.2) (acc := []) free
    have e' : par [94] [] (numL p.1 ++ 94 :: numL p.2) = some ([] ++ numL p.1, numL p.2) := e
    rw [e']
    show (if (numOk (numL p.1) && numOk (numL p.2)) = true then some (digitsVal (numL p.1), digitsVal (numL p.2)) else none) = _
    have h1 := h.one
    rw [numOk_num h.two h.len, numOk_num (by omega) (len_few h.few), numL_val, numL_val]
    rfl
theorem pL_free (n k : Nat) : 44 ∉ pL n k := by
  unfold pL
  intro h
  rcases List.mem_append.mp h with z | z
  · exact numL_free (.inl (by decide)) z
  · split at z
    · cases z
    · rcases List.mem_cons.mp z with e | e
      · cases e
      · exact numL_free (.inl (by decide)) e
def shL (ps : List (Nat × Nat)) : List Nat := joinL [44, 32] (ps.map fun p => pL p.1 p.2)
def outL (ps : List (Nat × Nat)) : List Int := (ps.map fun p => List.replicate p.2 (p.1 : Int)).flatten
/-- neighbours differ -/
def Alt : Option Int → List (Nat × Nat) → Prop
  | _, [] => True
  | o, p :: r => o ≠ some (p.1 : Int) ∧ Alt (some (p.1 : Int)) r
theorem last_rep {F : List Int} {k : Nat} {x : Int} (h : 1 ≤ k) : (F ++ List.replicate k x).getLast? = some x := by
  obtain ⟨m, rfl⟩ : ∃ m, k = m + 1 := ⟨k - 1, by omega⟩
  rw [List.replicate_succ', ← List.append_assoc, List.getLast?_concat]
theorem rAll_out : ∀ (ps : List (Nat × Nat)) (F : List Int), (∀ p ∈ ps, PartOk p) → Alt F.getLast? ps → rAll F (ps.map fun p => pL p.1 p.2) = some (F ++ outL ps)
  | [], F, _, _ => by
    show some F = some (F ++ [])
    rw [List.append_nil]
  | p :: r, F, h, a => by
    have hp := h p List.mem_cons_self
    have st : rStep F (pL p.1 p.2) = some (F ++ List.replicate p.2 (p.1 : Int)) := by
      unfold rStep
      rw [rPart_pL hp]
      show (if F.getLast? = some (p.1 : Int) then none else some (F ++ List.replicate p.2 (p.1 : Int))) = _
      rw [if_neg a.1]
    show (match rStep F (pL p.1 p.2) with | none => none | some F' => rAll F' (r.map fun p : Nat × Nat => pL p.1 p.2)) = _
    rw [st]
    show rAll (F ++ List.replicate p.2 (p.1 : Int)) (r.map fun p : Nat × Nat => pL p.1 p.2) = _
    rw [rAll_out r _ (fun q hq => h q (List.mem_cons_of_mem _ hq)) (by rw [last_rep hp.one]; exact a.2), List.append_assoc]
    rfl
theorem spl_shL {ps : List (Nat × Nat)} (ne : ps ≠ []) : spl [44, 32] 0 [] (shL ps) = ps.map fun p => pL p.1 p.2 :=
  spl_join (fun z => ne (List.map_eq_nil_iff.mp z)) fun q hq => by
    obtain ⟨p, _, rfl⟩ := List.mem_map.mp hq
    exact pL_free _ _
theorem joinL_head {S p : List Nat} {r : List (List Nat)} (h : p ≠ []) : (joinL S (p :: r)).head? = p.head? := by
  cases p with
  | nil => exact absurd rfl h
  | cons c p =>
    cases r <;> rfl
theorem read_shown {ps : List (Nat × Nat)} (ne : ps ≠ []) (ok : ∀ p ∈ ps, PartOk p) (a : Alt none ps) : rText (shL ps) = some (outL ps) ∧ Small (shL ps) := by
  constructor
  · unfold rText
    rw [spl_shL ne, rAll_out ps [] ok a, List.nil_append]
    refine if_neg fun z => ?_
    cases ps with
    | nil => exact ne rfl
    | cons p r =>
      have hh : (shL (p :: r)).head? = (numL p.1).head? := by
        show (joinL [44, 32] (pL p.1 p.2 :: r.map fun p => pL p.1 p.2)).head? = _
        have n1 : pL p.1 p.2 ≠ [] := fun z => by
          unfold pL at z
          exact numL_ne _ (List.append_eq_nil_iff.mp z).1
        rw [joinL_head n1]
        unfold pL
        cases e : numL p.1 with
        | nil => exact absurd e (numL_ne _)
        | cons x q => rfl
      rw [z] at hh
      cases e : numL p.1 with
      | nil => exact numL_ne _ e
      | cons x q =>
        rw [e] at hh
        have hx : x = 110 := (Option.some.inj hh).symm
        have := numL_digits p.1 x (by rw [e]; exact List.mem_cons_self)
        omega
  · unfold Small
    rw [spl_shL ne]
    intro q hq n k e
    obtain ⟨p, hp, rfl⟩ := List.mem_map.mp hq
    have e' : rPart (pL p.1 p.2) = some (n, k) := e
    rw [rPart_pL (ok p hp)] at e'
    cases e'
    exact (ok p hp).few
theorem fnok_mono {P : Program} {w : World} {K : PySem.W.Frag} {mg : Str → Option Value} {base : Heap} {k : Nat} {f : Addr} {fd : FuncData} {ps : List Str} {sp sp' : Sp} (G : FnOk P w K mg base CX0 k f fd ps sp) (h : ∀ vs H Q E, sp' vs H Q E → sp vs H Q E) : FnOk P w K mg base CX0 k f fd ps sp' :=
  ⟨fun vs H Q E z => G.len _ _ _ _ (h _ _ _ _ z), fun A outer s H args us vs Q E hr e0 hb hv z => G.run A outer s H args us vs Q E hr e0 hb hv (h _ _ _ _ z)⟩
theorem num_few {n : Nat} (h : n ≤ 1000) : (numL n).length ≤ 4 := numL_len (by decide) (by omega)
theorem tl_int {a : Int} (h : 0 ≤ a) : tl (Str.ofString (toString a)) = numL a.toNat := by
  obtain ⟨n, rfl⟩ := Int.eq_ofNat_of_zero_le h
  exact tl_num n
end Sq

set_option Elab.async false
set_option linter.all false
set_option maxRecDepth 100000
set_option maxHeartbeats 1000000
/-! Texts of lists, written: the groups of equal neighbours, the digits of great numbers. -/
namespace Sq
open PySem PySem.Spec PyProof.Rows L2 TL
open NumText (digitsVal AllDigits)
/-- the number of the last group -/
def lastN (o : Option Int) (ps : List (Nat × Nat)) : Option Int := match ps.getLast? with
  | some p => some (p.1 : Int)
  | none => o
theorem lastN_nil (o : Option Int) : lastN o [] = o := rfl
theorem lastN_snoc (o : Option Int) (ps : List (Nat × Nat)) (p : Nat × Nat) : lastN o (ps ++ [p]) = some (p.1 : Int) := by
  unfold lastN
  rw [List.getLast?_concat]
theorem lastN_cons (o : Option Int) (p : Nat × Nat) (ps : List (Nat × Nat)) : lastN o (p :: ps) = lastN (some (p.1 : Int)) ps := by
  unfold lastN
  cases ps with
  | nil => rfl
  | cons q r => rw [List.getLast?_cons_cons]; cases h : (q :: r).getLast? with
    | some z => rfl
    | none => simp at h
theorem alt_snoc : ∀ (ps : List (Nat × Nat)) (o : Option Int) (p : Nat × Nat), Alt o (ps ++ [p]) ↔ Alt o ps ∧ lastN o ps ≠ some (p.1 : Int)
  | [], o, p => ⟨fun h => ⟨trivial, h.1⟩, fun h => ⟨h.2, trivial⟩⟩
  | q :: r, o, p => by
    rw [lastN_cons]
    show (o ≠ some (q.1 : Int) ∧ Alt (some (q.1 : Int)) (r ++ [p])) ↔ (o ≠ some (q.1 : Int) ∧ Alt (some (q.1 : Int)) r) ∧ _
    rw [alt_snoc r]
    exact ⟨fun h => ⟨⟨h.1, h.2.1⟩, h.2.2⟩, fun h => ⟨h.1.1, h.1.2, h.2⟩⟩
/-- ks by its groups of equal neighbours -/
structure Grp (ks : List Int) (ps : List (Nat × Nat)) : Prop where
  alt : Alt none ps
  one : ∀ p ∈ ps, 1 ≤ p.2
  out : outL ps = ks
theorem outL_nil : outL [] = [] := rfl
theorem outL_cons (p : Nat × Nat) (ps : List (Nat × Nat)) : outL (p :: ps) = List.replicate p.2 (p.1 : Int) ++ outL ps := rfl
theorem outL_snoc (ps : List (Nat × Nat)) (p : Nat × Nat) : outL (ps ++ [p]) = outL ps ++ List.replicate p.2 (p.1 : Int) := by
  unfold outL
  rw [List.map_append, List.flatten_append]
  simp
theorem Grp.nil : Grp [] [] := ⟨trivial, fun p h => (nomatch h), rfl⟩
/-- one more number, another one -/
theorem Grp.new {ks : List Int} {ps : List (Nat × Nat)} {k : Nat} (g : Grp ks ps) (h : lastN none ps ≠ some (k : Int)) : Grp (ks ++ [(k : Int)]) (ps ++ [(k, 1)]) := by
  refine ⟨(alt_snoc _ _ _).mpr ⟨g.alt, h⟩, fun p hp => ?_, ?_⟩
  · rcases List.mem_append.mp hp with z | z
    · exact g.one p z
    · rw [List.mem_singleton.mp z]
      exact Nat.le_refl _
  · rw [outL_snoc, g.out]
    rfl
/-- one more number, the same -/
theorem Grp.more {ks : List Int} {ps : List (Nat × Nat)} {k m : Nat} (g : Grp ks (ps ++ [(k, m)])) : Grp (ks ++ [(k : Int)]) (ps ++ [(k, m + 1)]) := by
  have a := (alt_snoc _ _ _).mp g.alt
  refine ⟨(alt_snoc _ _ _).mpr a, fun p hp => ?_, ?_⟩
  · rcases List.mem_append.mp hp with z | z
    · exact g.one p (List.mem_append_left _ z)
    · rw [List.mem_singleton.mp z]
      exact Nat.succ_le_succ (Nat.zero_le _)
  · have o := g.out
    rw [outL_snoc] at o ⊢
    show outL ps ++ List.replicate (m + 1) (k : Int) = _
    rw [List.replicate_succ', ← List.append_assoc]
    rw [show outL ps ++ List.replicate m (k : Int) = ks from o]
theorem outL_head {p : Nat × Nat} {ps : List (Nat × Nat)} (h : 1 ≤ p.2) : ∃ r, outL (p :: ps) = (p.1 : Int) :: r := by
  rw [outL_cons]
  obtain ⟨m, e⟩ : ∃ m, p.2 = m + 1 := ⟨p.2 - 1, by omega⟩
  rw [e, List.replicate_succ]
  exact ⟨_, rfl⟩
theorem outL_eq_nil {ps : List (Nat × Nat)} (h : ∀ p ∈ ps, 1 ≤ p.2) (e : outL ps = []) : ps = [] := by
  cases ps with
  | nil => rfl
  | cons p r =>
    obtain ⟨s, z⟩ := outL_head (ps := r) (h p List.mem_cons_self)
    rw [z] at e
    cases e
theorem rep_cut {x : Int} {A B : List Int} : ∀ (m n : Nat), m ≤ n → List.replicate m x ++ A = List.replicate n x ++ B → A = List.replicate (n - m) x ++ B
  | 0, n, _, h => h
  | m + 1, 0, l, _ => absurd l (by omega)
  | m + 1, n + 1, l, h => by
    rw [List.replicate_succ, List.replicate_succ, List.cons_append, List.cons_append] at h
    rw [rep_cut m n (by omega) (List.cons.inj h).2, Nat.add_sub_add_right]
theorem alt_ne_head {k : Nat} {ps : List (Nat × Nat)} {B : List Int} {d : Nat} (a : Alt (some (k : Int)) ps) (o : ∀ p ∈ ps, 1 ≤ p.2) (hd : 0 < d) : outL ps ≠ List.replicate d (k : Int) ++ B := fun e => by
  obtain ⟨m, rfl⟩ : ∃ m, d = m + 1 := ⟨d - 1, by omega⟩
  rw [List.replicate_succ] at e
  cases ps with
  | nil => cases e
  | cons p r =>
    obtain ⟨s, z⟩ := outL_head (ps := r) (o p List.mem_cons_self)
    rw [z] at e
    have h := (List.cons.inj e).1
    exact a.1 (by rw [h])
theorem grp_one : ∀ (ps qs : List (Nat × Nat)) (o o' : Option Int), Alt o ps → Alt o' qs → (∀ p ∈ ps, 1 ≤ p.2) → (∀ p ∈ qs, 1 ≤ p.2) → outL ps = outL qs → ps = qs
  | [], qs, _, _, _, _, _, h2, e => (outL_eq_nil h2 e.symm).symm
  | p :: r, [], _, _, _, _, h1, _, e => outL_eq_nil h1 e
  | (k, m) :: r, (l, n) :: s, o, o', a1, a2, h1, h2, e => by
    have m1 : 1 ≤ m := h1 (k, m) List.mem_cons_self
    have n1 : 1 ≤ n := h2 (l, n) List.mem_cons_self
    have kl : (k : Int) = (l : Int) := by
      obtain ⟨x, e1⟩ := outL_head (p := (k, m)) (ps := r) m1
      obtain ⟨y, e2⟩ := outL_head (p := (l, n)) (ps := s) n1
      rw [e1, e2] at e
      exact (List.cons.inj e).1
    have kl' : k = l := Int.ofNat.inj kl
    subst kl'
    have e' : List.replicate m (k : Int) ++ outL r = List.replicate n (k : Int) ++ outL s := e
    have mn : m = n := by
      by_cases c : m < n
      · exact absurd (rep_cut m n (by omega) e') (alt_ne_head a1.2 (fun p hp => h1 p (List.mem_cons_of_mem _ hp)) (by omega))
      · by_cases c2 : n < m
        · exact absurd (rep_cut n m (by omega) e'.symm) (alt_ne_head a2.2 (fun p hp => h2 p (List.mem_cons_of_mem _ hp)) (by omega))
        · omega
    subst mn
    have e3 := rep_cut m m (Nat.le_refl _) e'
    rw [Nat.sub_self] at e3
    rw [grp_one r s _ _ a1.2 a2.2 (fun p hp => h1 p (List.mem_cons_of_mem _ hp)) (fun p hp => h2 p (List.mem_cons_of_mem _ hp)) e3]
theorem Grp.uniq {ks : List Int} {ps qs : List (Nat × Nat)} (a : Grp ks ps) (b : Grp ks qs) : ps = qs := grp_one ps qs none none a.alt b.alt a.one b.one (a.out.trans b.out.symm)
theorem Grp.mem {ks : List Int} {ps : List (Nat × Nat)} (g : Grp ks ps) : ∀ p ∈ ps, (p.1 : Int) ∈ ks := fun p hp => by
  rw [← g.out]
  unfold outL
  have h1 := g.one p hp
  exact List.mem_flatten.mpr ⟨_, List.mem_map.mpr ⟨p, hp, rfl⟩, List.mem_replicate.mpr ⟨by omega, rfl⟩⟩
theorem outL_len : ∀ (ps : List (Nat × Nat)), (outL ps).length = (ps.map (·.2)).sum
  | [] => rfl
  | p :: r => by
    rw [outL_cons, List.length_append, List.length_replicate, outL_len r]
    rfl
theorem sum_ge {ps : List (Nat × Nat)} : (∀ p ∈ ps, 1 ≤ p.2) → ps.length ≤ (ps.map (·.2)).sum ∧ ∀ p ∈ ps, p.2 ≤ (ps.map (·.2)).sum := by
  induction ps with
  | nil => exact fun _ => ⟨Nat.le_refl _, fun p hp => (nomatch hp)⟩
  | cons q r ih =>
    intro h
    obtain ⟨a, b⟩ := ih fun p hp => h p (List.mem_cons_of_mem _ hp)
    have h1 := h q List.mem_cons_self
    refine ⟨?_, fun p hp => ?_⟩
    · simp only [List.length_cons, List.map_cons, List.sum_cons]
      omega
    · simp only [List.map_cons, List.sum_cons]
      rcases List.mem_cons.mp hp with z | z
      · rw [z]; omega
      · have := b p z; omega
theorem Grp.len {ks : List Int} {ps : List (Nat × Nat)} (g : Grp ks ps) : ps.length ≤ ks.length ∧ ∀ p ∈ ps, p.2 ≤ ks.length := by
  rw [← g.out, outL_len]
  exact sum_ge g.one
/-- the signs of a list's text -/
def txtL (ps : List (Nat × Nat)) : List Nat := if ps = [] then [110, 111, 110, 101] else shL ps
/-! ### great numbers, piece by piece -/
def dig : Nat → Nat → List Nat
  | 0, _ => []
  | k + 1, r => dig k (r / 10) ++ [48 + r % 10]
theorem dig_len : ∀ k r, (dig k r).length = k
  | 0, _ => rfl
  | k + 1, r => by
    show (dig k (r / 10) ++ [48 + r % 10]).length = _
    rw [List.length_append, dig_len k]
    rfl
theorem numL_app : ∀ (k q r : Nat), 1 ≤ q → r < 10 ^ k → numL (q * 10 ^ k + r) = numL q ++ dig k r
  | 0, q, r, _, h => by
    have : r = 0 := by simpa using h
    subst this
    show numL (q * 1 + 0) = numL q ++ []
    rw [List.append_nil, Nat.mul_one, Nat.add_zero]
  | k + 1, q, r, hq, h => by
    have p : 10 ^ (k + 1) = 10 ^ k * 10 := Nat.pow_succ 10 k
    have pp : 1 ≤ 10 ^ k := Nat.one_le_pow _ _ (by decide)
    have e0 : q * (10 ^ k * 10) = q * 10 ^ k * 10 := by rw [Nat.mul_assoc]
    have g : 1 ≤ q * 10 ^ k := Nat.le_trans pp (Nat.le_mul_of_pos_left _ hq)
    rw [p] at h
    rw [p, e0, numL_step (by omega)]
    have e1 : (q * 10 ^ k * 10 + r) / 10 = q * 10 ^ k + r / 10 := by omega
    have e2 : (q * 10 ^ k * 10 + r) % 10 = r % 10 := by omega
    rw [e1, e2, numL_app k q (r / 10) hq (by omega), List.append_assoc]
    rfl
theorem dig_pad : ∀ (k r : Nat), 1 ≤ k → r < 10 ^ k → dig k r = List.replicate (k - (numL r).length) 48 ++ numL r
  | 0, r, h, _ => absurd h (by decide)
  | k + 1, r, _, h => by
    show dig k (r / 10) ++ [48 + r % 10] = _
    by_cases c : r < 10
    · rw [numL_lt c]
      have e0 : r / 10 = 0 := by omega
      have e1 : r % 10 = r := by omega
      rw [e0, e1]
      show _ = List.replicate (k + 1 - 1) 48 ++ [48 + r]
      rw [Nat.add_sub_cancel]
      by_cases ck : k = 0
      · subst ck
        rfl
      · rw [dig_pad k 0 (by omega) (Nat.pow_pos (by decide)), numL_lt (by decide)]
        show List.replicate (k - 1) 48 ++ [48] ++ [48 + r] = _
        obtain ⟨j, rfl⟩ : ∃ j, k = j + 1 := ⟨k - 1, by omega⟩
        rw [List.replicate_succ', Nat.add_sub_cancel]
    · rw [numL_step (by omega), List.length_append]
      show _ = List.replicate (k + 1 - ((numL (r / 10)).length + 1)) 48 ++ (numL (r / 10) ++ [48 + r % 10])
      have ck : 1 ≤ k := by
        cases k with
        | zero => exact absurd h (by omega)
        | succ j => omega
      rw [Nat.pow_succ] at h
      rw [dig_pad k (r / 10) ck (by omega), Nat.add_sub_add_right, List.append_assoc]
end Sq
namespace Sq
open PySem PySem.Spec PyProof.Rows L2 TL
theorem zfill_dig {r : Nat} (h : r < 10 ^ 64) : tl (Txt.zfill (Str.ofString (toString (r : Int))) 64) = dig 64 r := by
  obtain ⟨x, ex⟩ : ∃ x, x = Str.ofString (toString (r : Int)) := ⟨_, rfl⟩
  have tx : tl x = numL r := by rw [ex]; exact tl_num r
  have lx : x.length = (numL r).length := by rw [len_tl, tx]
  have l64 : (numL r).length ≤ 64 := numL_len (by decide) h
  rw [← ex, dig_pad 64 r (by decide) h, ← lx]
  unfold Txt.zfill
  by_cases c : (64 : Int) ≤ x.length
  · rw [if_pos c, show 64 - x.length = 0 by omega, tx]
    rfl
  · rw [if_neg c]
    have plain : zfilled x ((64 : Int).toNat - x.length) = Builtin.Str.padded x ((64 : Int).toNat - x.length) 0 48 := by
      unfold zfilled
      have h0 : ∀ c, x.cps[0]? = some c → 48 ≤ c := fun c hc => by
        have m : c ∈ tl x := by
          have : (tl x)[0]? = some c := by
            show x.cps.toList[0]? = some c
            rw [Array.getElem?_toList]
            exact hc
          exact List.mem_of_getElem? this
        rw [tx] at m
        exact (numL_digits r c m).1
      split
      · rename_i e
        have := h0 _ e
        omega
      · rename_i e
        have := h0 _ e
        omega
      · rfl
    rw [plain]
    show tl (⟨Array.replicate ((64 : Int).toNat - x.length) 48 ++ x.cps ++ Array.replicate 0 48⟩ : Str) = _
    show (Array.replicate ((64 : Int).toNat - x.length) 48 ++ x.cps ++ Array.replicate 0 48).toList = _
    rw [Array.toList_append, Array.toList_append, Array.toList_replicate, Array.toList_replicate]
    show List.replicate (64 - x.length) 48 ++ tl x ++ [] = _
    rw [List.append_nil, tx]
end Sq
namespace Sq
open PySem PySem.Spec PyProof.Rows L2 TL
/-- o[i], by values, of a list (for o[i] += e) -/
theorem get_list {X : Cx} : PGet X (rIxL X.K) := by
  intro pins s σ H x y v u Q I rx ry h
  obtain ⟨p, xs, i, z, rfl, rfl, hq, he, q⟩ := h
  cases rx
  obtain ⟨t, rfl⟩ := ry
  obtain ⟨its, r, pl, hz⟩ := I.list hq
  obtain ⟨j, h1, h2, h3, h4, h5⟩ := atI_get he
  obtain ⟨w, ew, rw'⟩ := r.get h2
  have hl := r.length
  have hn := line63
  have fin : EP X pins σ Q w s := ⟨z, H, I, rw', q⟩
  by_cases h0 : 0 ≤ i
  · have hj : i.toNat = j := by
      rw [seqIndex_of h0 h5] at h1
      exact Option.some.inj h1
    exact wpAny_getItem_list pl.isList h0 (by omega) (by rw [hj]; simpa using ew) fin
  · have hj : (i + (its.toArray.size : Int)).toNat = j := by
      rw [seqIndex_neg (by omega) h4] at h1
      rw [List.size_toArray, ← hl]
      exact Option.some.inj h1
    exact wpAny_getItem_list_neg pl.isList (by omega) (by rw [List.size_toArray] <;> omega) (by omega) (by rw [hj]; simpa using ew) fin
def mkS (l : List Nat) : Str := ⟨l.toArray⟩
theorem tl_mkS (l : List Nat) : tl (mkS l) = l := rfl
theorem mkS_of {x : Str} {l : List Nat} (h : tl x = l) : x = mkS l := ext_tl h
theorem len_mkS (l : List Nat) : (mkS l).length = l.length := len_tl _
/-- where the groups stand -/
def RowsP (H : Hp) (as : List Addr) (ps : List (Nat × Nat)) : Prop := as.length = ps.length ∧ ∀ (i : Nat) (p : Nat × Nat), ps[i]? = some p → ∃ a, as[i]? = some a ∧ H a = some (.lst [.int (p.1 : Int), .int (p.2 : Int)])
theorem at_snoc {α : Type} {xs : List α} {x y : α} {i : Nat} (h : (xs ++ [x])[i]? = some y) : (i < xs.length ∧ xs[i]? = some y) ∨ (i = xs.length ∧ y = x) := by
  by_cases c : i < xs.length
  · rw [List.getElem?_append_left c] at h
    exact .inl ⟨c, h⟩
  · rw [List.getElem?_append_right (by omega)] at h
    by_cases e : i = xs.length
    · rw [e, Nat.sub_self] at h
      exact .inr ⟨e, (Option.some.inj h).symm⟩
    · rw [List.getElem?_eq_none (by simp; omega)] at h
      cases h
theorem at_snoc_last {α : Type} {xs : List α} {x : α} : (xs ++ [x])[xs.length]? = some x := by
  rw [List.getElem?_append_right (Nat.le_refl _), Nat.sub_self]
  rfl
theorem at_snoc_left {α : Type} {xs : List α} {x y : α} {i : Nat} (h : xs[i]? = some y) : (xs ++ [x])[i]? = some y := by
  have lt := (List.getElem?_eq_some_iff.mp h).1
  rw [List.getElem?_append_left lt]
  exact h
theorem join_len : ∀ (S : List Nat) (ps : List (List Nat)) (B : Nat), (∀ p ∈ ps, p.length ≤ B) → (joinL S ps).length ≤ ps.length * (B + S.length)
  | S, [], B, _ => Nat.zero_le _
  | S, [p], B, h => by
    show p.length ≤ 1 * (B + S.length)
    have := h p List.mem_cons_self
    omega
  | S, p :: q :: r, B, h => by
    have a := h p List.mem_cons_self
    have b := join_len S (q :: r) B fun z hz => h z (List.mem_cons_of_mem _ hz)
    show (p ++ (S ++ joinL S (q :: r))).length ≤ _
    rw [List.length_append, List.length_append, List.length_cons (a := p), Nat.add_mul, Nat.one_mul]
    omega
theorem lt_pow10 {n k : Nat} (h : n < 10 ^ k) : n.log2 < 4 * k + 1 := by
  have a : 10 ^ k ≤ 16 ^ k := Nat.pow_le_pow_left (by decide) k
  have b : (16 : Nat) ^ k = 2 ^ (4 * k) := by rw [Nat.pow_mul]
  have c : n < 2 ^ (4 * k) := by rw [← b]; exact Nat.lt_of_lt_of_le h a
  by_cases z : n = 0
  · rw [z]
    show Nat.log2 0 < _
    have : Nat.log2 0 = 0 := by decide
    omega
  · have := (Nat.log2_lt z).mpr c
    omega
end Sq
namespace Sq
open PySem PySem.Spec PyProof.Rows L2 TL
theorem numL_bound (n : Nat) : n < 10 ^ (numL n).length := by
  induction n using Nat.strongRecOn with
  | _ n ih =>
    by_cases h : n < 10
    · rw [numL_lt h]
      exact h
    · rw [numL_step (by omega), List.length_append]
      have := ih (n / 10) (by omega)
      show n < 10 ^ ((numL (n / 10)).length + 1)
      rw [Nat.pow_succ]
      omega
theorem pow10_le {n k m : Nat} (h : n < 10 ^ k) (l : k ≤ m) : n < 10 ^ m := Nat.lt_of_lt_of_le h (Nat.pow_le_pow_right (by decide) l)
theorem log_num {n k : Nat} (h : (numL n).length ≤ k) : (n : Int).natAbs.log2 < 4 * k + 1 := by
  show n.log2 < _
  exact lt_pow10 (pow10_le (numL_bound n) h)
theorem bits_num {n k : Nat} (h : (numL n).length ≤ k) : Builtin.Int.intBits (n : Int) ≤ 4 * k + 1 := by
  unfold Builtin.Int.intBits
  have := log_num h
  split <;> omega
theorem flat_len {ws : List (List Nat)} {c : Nat} (h : ∀ x ∈ ws, x.length = c) : ws.flatten.length = ws.length * c := by
  induction ws with
  | nil => simp
  | cons x r ih =>
    rw [List.flatten_cons, List.length_append, h x List.mem_cons_self, ih fun y hy => h y (List.mem_cons_of_mem _ hy), List.length_cons, Nat.add_mul, Nat.one_mul, Nat.add_comm]
theorem joinL_nil : ∀ ps : List (List Nat), joinL [] ps = ps.flatten
  | [] => rfl
  | [p] => by show p = [p].flatten; simp
  | p :: q :: r => by
    show p ++ ([] ++ joinL [] (q :: r)) = _
    rw [joinL_nil (q :: r), List.flatten_cons]
    rfl
end Sq
namespace Sq
open PySem PySem.Spec PyProof.Rows L2 TL
theorem joinL_snoc {S p : List Nat} : ∀ {ps : List (List Nat)}, ps ≠ [] → joinL S (ps ++ [p]) = joinL S ps ++ (S ++ p)
  | [], h => absurd rfl h
  | [q], _ => rfl
  | q :: r :: s, _ => by
    show q ++ (S ++ joinL S ((r :: s) ++ [p])) = (q ++ (S ++ joinL S (r :: s))) ++ (S ++ p)
    rw [joinL_snoc (ps := r :: s) (by simp)]
    simp [List.append_assoc]
theorem shL_snoc {ps : List (Nat × Nat)} {p : Nat × Nat} : shL (ps ++ [p]) = shL ps ++ ((if ps = [] then [] else [44, 32]) ++ pL p.1 p.2) := by
  unfold shL
  by_cases h : ps = []
  · subst h
    rw [if_pos rfl]
    rfl
  · rw [List.map_append, List.map_singleton, joinL_snoc (fun z => h (List.map_eq_nil_iff.mp z)), if_neg h]
theorem pL_ne (n k : Nat) : pL n k ≠ [] := fun z => by
  unfold pL at z
  exact numL_ne _ (List.append_eq_nil_iff.mp z).1
theorem shL_ne {ps : List (Nat × Nat)} (h : ps ≠ []) : shL ps ≠ [] := fun z => by
  cases ps with
  | nil => exact h rfl
  | cons p r =>
    have hh := joinL_head (S := [44, 32]) (r := r.map fun p => pL p.1 p.2) (pL_ne p.1 p.2)
    have z' : joinL [44, 32] (pL p.1 p.2 :: r.map fun p => pL p.1 p.2) = [] := z
    rw [z'] at hh
    cases e : pL p.1 p.2 with
    | nil => exact pL_ne _ _ e
    | cons a b => rw [e] at hh; cases hh
theorem cut_one {xs : List V} {i : Nat} : cutV xs (some ((i + 1 : Nat) : Int)) (some ((i + 2 : Nat) : Int)) = (xs[i + 1]?).toList := by
  unfold cutV
  rw [HT.sIx_nat, HT.sIx_nat]
  by_cases h : i + 1 < xs.length
  · rw [Nat.min_eq_left (by omega), Nat.min_eq_left (by omega), show i + 2 - (i + 1) = 1 by omega, List.drop_eq_getElem_cons h, List.getElem?_eq_getElem h]
    rfl
  · rw [List.getElem?_eq_none (by omega), List.drop_of_length_le (by omega)]
    simp
/-- one group's way of writing: the state of a writer that has closed the groups C and stands t signs in the next -/
structure OwnS (ks : List Int) (i : Nat) (C : List (Nat × Nat)) (t : Nat) : Prop where
  alt : Alt none C
  one : ∀ p ∈ C, 1 ≤ p.2
  nx : ∀ n, ks[i]? = some n → ks.take i = outL C ++ List.replicate t n ∧ lastN none C ≠ some n
  fin : ks[i]? = none → t = 0 ∧ outL C = ks
theorem OwnS.start (ks : List Int) : OwnS ks 0 [] 0 := ⟨trivial, fun p h => (nomatch h), fun n _ => ⟨rfl, fun z => (nomatch z)⟩, fun h => ⟨rfl, by
  cases ks with
  | nil => rfl
  | cons k r => cases h⟩⟩
theorem OwnS.same {ks : List Int} {i : Nat} {C : List (Nat × Nat)} {t : Nat} {n : Int} (h : OwnS ks i C t) (e : ks[i]? = some n) (e2 : ks[i + 1]? = some n) : OwnS ks (i + 1) C (t + 1) := by
  obtain ⟨a, b⟩ := h.nx n e
  refine ⟨h.alt, h.one, fun m hm => ?_, fun z => by rw [e2] at z; cases z⟩
  rw [e2] at hm
  cases hm
  refine ⟨?_, b⟩
  rw [List.take_add_one, e, a, List.replicate_succ', List.append_assoc]
  rfl
theorem OwnS.close {ks : List Int} {i : Nat} {C : List (Nat × Nat)} {t : Nat} {n : Int} (h : OwnS ks i C t) (e : ks[i]? = some n) (e2 : ks[i + 1]? ≠ some n) (h0 : 0 ≤ n) : OwnS ks (i + 1) (C ++ [(n.toNat, t + 1)]) 0 := by
  obtain ⟨a, b⟩ := h.nx n e
  have en : ((n.toNat : Nat) : Int) = n := Int.toNat_of_nonneg h0
  have tk : ks.take (i + 1) = outL (C ++ [(n.toNat, t + 1)]) := by
    rw [outL_snoc, List.take_add_one, e, a]
    show _ = outL C ++ List.replicate (t + 1) ((n.toNat : Nat) : Int)
    rw [en, List.replicate_succ', List.append_assoc]
    rfl
  refine ⟨(alt_snoc _ _ _).mpr ⟨h.alt, by rw [en]; exact b⟩, fun p hp => ?_, fun m hm => ⟨?_, ?_⟩, fun z => ⟨rfl, ?_⟩⟩
  · rcases List.mem_append.mp hp with z | z
    · exact h.one p z
    · rw [List.mem_singleton.mp z]
      exact Nat.succ_le_succ (Nat.zero_le _)
  · rw [tk]
    exact (List.append_nil _).symm
  · rw [lastN_snoc, en]
    exact fun z => e2 (by rw [hm, Option.some.inj z])
  · rw [← tk, List.take_of_length_le (List.getElem?_eq_none_iff.mp z)]
end Sq

set_option Elab.async false
set_option linter.all false
set_option maxRecDepth 100000
set_option maxHeartbeats 1000000
/-! What is read is written. -/
namespace Sq
open PySem PySem.Spec PyProof.Rows L2 TL
open NumText (digitsVal AllDigits)
theorem digitsVal_snoc (l : List Nat) (c : Nat) : digitsVal (l ++ [c]) = digitsVal l * 10 + (c - 48) := by
  unfold NumText.digitsVal
  rw [List.foldl_append]
  rfl
theorem numL_back : ∀ (n : Nat) (l : List Nat), l.length = n → AllDigits l → l ≠ [] → l.head? ≠ some 48 → numL (digitsVal l) = l ∧ 1 ≤ digitsVal l := fun n => by
  induction n with
  | zero => exact fun l e _ ne _ => absurd (List.length_eq_zero_iff.mp e) ne
  | succ n ih =>
    intro l e ad ne hd
    rcases List.eq_nil_or_concat l with z | ⟨r, c, z⟩
    · exact absurd z ne
    · rw [List.concat_eq_append] at z
      subst z
      have hc := ad c (List.mem_append_right _ (List.mem_singleton.mpr rfl))
      rw [digitsVal_snoc]
      by_cases er : r = []
      · subst er
        have h48 : c ≠ 48 := fun z => hd (by rw [z]; rfl)
        show numL (0 * 10 + (c - 48)) = [] ++ [c] ∧ _
        rw [Nat.zero_mul, Nat.zero_add, numL_lt (by omega)]
        refine ⟨?_, ?_⟩
        · show [48 + (c - 48)] = [c]
          rw [show 48 + (c - 48) = c by omega]
        · show 1 ≤ digitsVal [] * 10 + (c - 48)
          show 1 ≤ 0 * 10 + (c - 48)
          omega
      · have hr : r.head? ≠ some 48 := by
          cases r with
          | nil => exact absurd rfl er
          | cons a b => exact hd
        obtain ⟨i1, i2⟩ := ih r (by rw [List.length_append] at e; simpa using e) (fun x hx => ad x (List.mem_append_left _ hx)) er hr
        refine ⟨?_, by omega⟩
        rw [numL_step (by omega)]
        have e1 : (digitsVal r * 10 + (c - 48)) / 10 = digitsVal r := by omega
        have e2 : (digitsVal r * 10 + (c - 48)) % 10 = c - 48 := by omega
        rw [e1, e2, i1, show 48 + (c - 48) = c by omega]
theorem numOk_back {l : List Nat} (h : numOk l = true) : numL (digitsVal l) = l ∧ 2 ≤ digitsVal l := by
  obtain ⟨a, b, _, d, e⟩ := numOk_iff.mp h
  obtain ⟨h1, h2⟩ := numL_back _ l rfl a b d
  refine ⟨h1, ?_⟩
  by_cases c : digitsVal l = 1
  · rw [c] at h1
    exact absurd (h1.symm.trans (show numL 1 = [49] by rfl)) e
  · omega
theorem par_some : ∀ (l acc a b : List Nat), par [94] acc l = some (a, b) → acc ++ l = a ++ 94 :: b
  | [], acc, a, b, h => by cases h
  | c :: r, acc, a, b, h => by
    by_cases z : pre [94] (c :: r) = true
    · rw [par_hit z] at h
      have e : c = 94 := by
        by_cases q : c = 94
        · exact q
        · rw [pre_of_head [] r q] at z
          cases z
      subst e
      obtain ⟨rfl, rfl⟩ := Prod.mk.inj (Option.some.inj h)
      rfl
    · rw [par_miss (by simpa using z)] at h
      have e := par_some r (acc ++ [c]) a b h
      rw [← e]
      simp
structure PartR (p : Nat × Nat) : Prop where
  two : 2 ≤ p.1
  one : 1 ≤ p.2
  len : (numL p.1).length ≤ 200
theorem rPart_inv {q : List Nat} {n k : Nat} (h : rPart q = some (n, k)) : q = pL n k ∧ PartR (n, k) := by
  unfold rPart at h
  cases hp : par [94] [] q with
  | none =>
    rw [hp] at h
    have h' : (if numOk q = true then some (digitsVal q, 1) else none) = some (n, k) := h
    by_cases c : numOk q = true
    · rw [if_pos c] at h'
      cases h'
      obtain ⟨h1, h2⟩ := numOk_back c
      refine ⟨?_, h2, Nat.le_refl _, ?_⟩
      · unfold pL
        rw [if_pos rfl, List.append_nil, h1]
      · show (numL (digitsVal q)).length ≤ 200
        rw [h1]
        exact (numOk_iff.mp c).2.2.1
    · rw [if_neg c] at h'
      cases h'
  | some ab =>
    obtain ⟨a, b⟩ := ab
    rw [hp] at h
    have h' : (if (numOk a && numOk b) = true then some (digitsVal a, digitsVal b) else none) = some (n, k) := h
    by_cases c : (numOk a && numOk b) = true
    · rw [if_pos c] at h'
      cases h'
      rw [Bool.and_eq_true] at c
      obtain ⟨h1, h2⟩ := numOk_back c.1
      obtain ⟨h3, h4⟩ := numOk_back c.2
      have e := par_some q [] a b hp
      refine ⟨?_, h2, by show 1 ≤ digitsVal b; omega, ?_⟩
      · unfold pL
        rw [if_neg (by omega), h1, h3]
        exact e
      · show (numL (digitsVal a)).length ≤ 200
        rw [h1]
        exact (numOk_iff.mp c.1).2.2.1
    · rw [if_neg c] at h'
      cases h'
theorem last_of {F : List Int} {ps : List (Nat × Nat)} (g : Grp F ps) : F.getLast? = lastN none ps := by
  rcases List.eq_nil_or_concat ps with e | ⟨qs, p, e⟩
  · have := g.out
    rw [e] at this ⊢
    rw [← this]
    rfl
  · rw [List.concat_eq_append] at e
    have o := g.out
    have h1 := g.one p (by rw [e]; exact List.mem_append_right _ (List.mem_singleton.mpr rfl))
    rw [e] at o ⊢
    rw [lastN_snoc, ← o, outL_snoc, last_rep h1]
theorem Grp.block {F : List Int} {ps : List (Nat × Nat)} {n k : Nat} (g : Grp F ps) (h : F.getLast? ≠ some (n : Int)) (hk : 1 ≤ k) : Grp (F ++ List.replicate k (n : Int)) (ps ++ [(n, k)]) := by
  rw [last_of g] at h
  refine ⟨(alt_snoc _ _ _).mpr ⟨g.alt, h⟩, fun p hp => ?_, ?_⟩
  · rcases List.mem_append.mp hp with z | z
    · exact g.one p z
    · rw [List.mem_singleton.mp z]
      exact hk
  · rw [outL_snoc, g.out]
theorem rAll_inv : ∀ (parts : List (List Nat)) (F ks : List Int) (p0 : List (Nat × Nat)), rAll F parts = some ks → Grp F p0 → ∃ ps, Grp ks (p0 ++ ps) ∧ ps.map (fun p : Nat × Nat => pL p.1 p.2) = parts ∧ (∀ p ∈ ps, PartR p) ∧ ∀ p ∈ ps, rPart (pL p.1 p.2) = some (p.1, p.2)
  | [], F, ks, p0, h, g => by
    have e : F = ks := Option.some.inj h
    subst e
    exact ⟨[], by rw [List.append_nil]; exact g, rfl, fun p hp => (nomatch hp), fun p hp => (nomatch hp)⟩
  | q :: r, F, ks, p0, h, g => by
    obtain ⟨F', st, h2⟩ := rAll_cons h
    obtain ⟨n, k, rp, last, rfl⟩ := rStep_some st
    obtain ⟨eq, pr⟩ := rPart_inv rp
    obtain ⟨ps, g2, e2, ok, rp2⟩ := rAll_inv r _ ks (p0 ++ [(n, k)]) h2 (g.block last pr.one)
    refine ⟨(n, k) :: ps, by rw [List.append_assoc] at g2; exact g2, ?_, fun p hp => ?_, fun p hp => ?_⟩
    · rw [List.map_cons, e2, ← eq]
    · rcases List.mem_cons.mp hp with z | z
      · rw [z]; exact pr
      · exact ok p z
    · rcases List.mem_cons.mp hp with z | z
      · rw [z, ← eq]; exact rp
      · exact rp2 p z
theorem spl_ne (S : List Nat) : ∀ (k : Nat) (acc l : List Nat), spl S k acc l ≠ []
  | k, acc, [] => by rw [spl_nil]; simp
  | 0, acc, c :: r => by
    show (if pre S (c :: r) = true then acc :: spl S (S.length - 1) [] r else spl S 0 (acc ++ [c]) r) ≠ []
    split
    · simp
    · exact spl_ne S 0 _ r
  | k + 1, acc, c :: r => spl_ne S k acc r
theorem joinL_cons2 {S p : List Nat} {qs : List (List Nat)} (h : qs ≠ []) : joinL S (p :: qs) = p ++ (S ++ joinL S qs) := by
  cases qs with
  | nil => exact absurd rfl h
  | cons q r => rfl
theorem pre_split {s : Nat} {S r : List Nat} {c : Nat} (h : pre (s :: S) (c :: r) = true) : c :: r = (s :: S) ++ r.drop S.length := by
  have e : (c :: r).take (s :: S).length = s :: S := eq_of_beq h
  rw [List.length_cons, List.take_succ_cons] at e
  injection e with e1 e2
  rw [e1]
  show s :: r = s :: (S ++ r.drop S.length)
  rw [← e2]
  have : (r.take S.length).length = S.length := by rw [e2]
  rw [this, List.take_append_drop]
theorem spl_glue {s : Nat} {S : List Nat} : ∀ (n : Nat) (acc l : List Nat), l.length = n → joinL (s :: S) (spl (s :: S) 0 acc l) = acc ++ l := fun n => by
  induction n using Nat.strongRecOn with
  | _ n ih =>
    intro acc l e
    cases l with
    | nil =>
      rw [spl_nil, List.append_nil]
      rfl
    | cons c r =>
      by_cases h : pre (s :: S) (c :: r) = true
      · rw [spl_hit h, joinL_cons2 (spl_ne _ _ _ _), spl_pass, ih (r.drop ((s :: S).length - 1)).length (by rw [List.length_drop]; rw [List.length_cons] at e; omega) [] _ rfl]
        have e2 := pre_split h
        rw [e2, List.nil_append]
        rfl
      · rw [spl_miss (by simpa using h), ih r.length (by rw [← e, List.length_cons]; omega) _ r rfl, List.append_assoc]
        rfl
theorem read_back {l : List Nat} {ks : List Int} (h : rText l = some ks) : ∃ ps, Grp ks ps ∧ txtL ps = l ∧ (∀ p ∈ ps, PartR p) ∧ ps.length ≤ l.length + 1 ∧ (Small l → ∀ p ∈ ps, p.2 ≤ 1000) := by
  unfold rText at h
  by_cases c : l = [110, 111, 110, 101]
  · rw [if_pos c] at h
    cases h
    exact ⟨[], Grp.nil, c.symm, fun p hp => (nomatch hp), Nat.zero_le _, fun _ p hp => (nomatch hp)⟩
  · rw [if_neg c] at h
    obtain ⟨ps, g, e, ok, rp⟩ := rAll_inv _ [] ks [] h Grp.nil
    rw [List.nil_append] at g
    refine ⟨ps, g, ?_, ok, ?_, fun sm p hp => ?_⟩
    have ne : ps ≠ [] := fun z => by
      rw [z] at e
      exact spl_ne _ _ _ _ e.symm
    unfold txtL
    rw [if_neg ne]
    unfold shL
    rw [e, spl_glue l.length [] l rfl]
    rfl
    · have a := spl_len [44, 32] 0 [] l
      rw [← e, List.length_map] at a
      exact a
    · have m : pL p.1 p.2 ∈ spl [44, 32] 0 [] l := by
        rw [← e]
        exact List.mem_map.mpr ⟨p, hp, rfl⟩
      by_cases k1 : p.2 = 1
      · omega
      · by_cases z : p.2 ≤ 1000
        · exact z
        · refine sm _ m p.1 p.2 ?_
          exact rp p hp
theorem read_txt {ks : List Int} {ps : List (Nat × Nat)} (g : Grp ks ps) (ok : ∀ p ∈ ps, PartOk p) : rText (txtL ps) = some ks ∧ Small (txtL ps) := by
  unfold txtL
  by_cases h : ps = []
  · rw [if_pos h]
    have e := g.out
    rw [h] at e
    refine ⟨?_, ?_⟩
    · rw [← e]
      rfl
    · unfold Small
      have e2 : spl [44, 32] 0 [] [110, 111, 110, 101] = [[110, 111, 110, 101]] := by decide +kernel
      rw [e2]
      intro p hp n k hk
      rw [List.mem_singleton.mp hp] at hk
      have : rPart [110, 111, 110, 101] = none := by decide +kernel
      rw [this] at hk
      cases hk
  · rw [if_neg h]
    obtain ⟨a, b⟩ := read_shown h ok g.alt
    rw [g.out] at a
    exact ⟨a, b⟩
/-! ### few digits behind each ^ -/
def isDg (c : Nat) : Bool := decide (48 ≤ c) && decide (c ≤ 57)
/-- at most two digits in a row stand behind a ^ -/
def Few2 (l : List Nat) : Prop := ∀ i, l[i]? = some 94 → ∀ a b c, l[i + 1]? = some a → l[i + 2]? = some b → l[i + 3]? = some c → ¬ (isDg a = true ∧ isDg b = true ∧ isDg c = true)
theorem mem_infix_spl {S : List Nat} : ∀ (l acc : List Nat) (k : Nat), (k = 0 ∨ acc = []) → ∀ q ∈ spl S k acc l, ∃ A B, acc ++ l = A ++ q ++ B
  | [], acc, k, _, q, hq => by
    rw [spl_nil] at hq
    rw [List.mem_singleton.mp hq]
    exact ⟨[], [], by simp⟩
  | c :: r, acc, 0, _, q, hq => by
    have hq' : q ∈ (if pre S (c :: r) = true then acc :: spl S (S.length - 1) [] r else spl S 0 (acc ++ [c]) r) := hq
    split at hq'
    · rcases List.mem_cons.mp hq' with z | z
      · rw [z]
        exact ⟨[], c :: r, by simp⟩
      · obtain ⟨A, B, e⟩ := mem_infix_spl r [] (S.length - 1) (.inr rfl) q z
        refine ⟨acc ++ c :: A, B, ?_⟩
        have e' : r = A ++ q ++ B := e
        rw [e']
        simp
    · obtain ⟨A, B, e⟩ := mem_infix_spl r (acc ++ [c]) 0 (.inl rfl) q hq'
      refine ⟨A, B, ?_⟩
      rw [← e]
      simp
  | c :: r, acc, k + 1, h, q, hq => by
    have ea : acc = [] := by
      rcases h with z | z
      · cases z
      · exact z
    subst ea
    have hq' : q ∈ spl S k [] r := hq
    obtain ⟨A, B, e⟩ := mem_infix_spl r [] k (.inr rfl) q hq'
    have e' : r = A ++ q ++ B := e
    exact ⟨c :: A, B, by rw [e']; rfl⟩
theorem digitsVal_small {b : List Nat} (h : AllDigits b) : digitsVal b < 10 ^ b.length := by
  have key : ∀ n (l : List Nat), l.length = n → AllDigits l → digitsVal l < 10 ^ n := fun n => by
    induction n with
    | zero => exact fun l e _ => by rw [List.length_eq_zero_iff.mp e]; decide
    | succ n ih =>
      intro l e ad
      rcases List.eq_nil_or_concat l with z | ⟨r, c, z⟩
      · rw [z] at e; cases e
      · rw [List.concat_eq_append] at z
        subst z
        have hc := ad c (List.mem_append_right _ (List.mem_singleton.mpr rfl))
        have := ih r (by rw [List.length_append] at e; simpa using e) fun x hx => ad x (List.mem_append_left _ hx)
        rw [digitsVal_snoc, Nat.pow_succ]
        omega
  exact key _ b rfl h
theorem small_of_few {l : List Nat} (h : Few2 l) : Small l := by
  intro q hq n k hk
  unfold rPart at hk
  cases hp : par [94] [] q with
  | none =>
    rw [hp] at hk
    have hk' : (if numOk q = true then some (digitsVal q, 1) else none) = some (n, k) := hk
    by_cases c : numOk q = true
    · rw [if_pos c] at hk'
      cases hk'
      decide
    · rw [if_neg c] at hk'; cases hk'
  | some ab =>
    obtain ⟨a, b⟩ := ab
    rw [hp] at hk
    have hk' : (if (numOk a && numOk b) = true then some (digitsVal a, digitsVal b) else none) = some (n, k) := hk
    by_cases c : (numOk a && numOk b) = true
    · rw [if_pos c] at hk'
      cases hk'
      rw [Bool.and_eq_true] at c
      obtain ⟨ad, _⟩ := numOk_iff.mp c.2
      have e := par_some q [] a b hp
      obtain ⟨A, B, e2⟩ := mem_infix_spl l [] 0 (.inl rfl) q hq
      have el : l = (A ++ a) ++ 94 :: (b ++ B) := by
        have e3 : q = a ++ 94 :: b := e
        have e4 : l = A ++ q ++ B := e2
        rw [e4, e3]
        simp
      have lb : b.length ≤ 2 := by
        by_cases z : b.length ≤ 2
        · exact z
        · obtain ⟨x, y, w, r, eb⟩ : ∃ x y w r, b = x :: y :: w :: r := by
            match b, z with
            | x :: y :: w :: r, _ => exact ⟨x, y, w, r, rfl⟩
            | [], z => exact absurd (by simp) z
            | [_], z => exact absurd (by simp) z
            | [_, _], z => exact absurd (by simp) z
          have dgt : ∀ c ∈ b, isDg c = true := fun c hc => by
            have := ad c hc
            unfold isDg
            simp only [Bool.and_eq_true, decide_eq_true_eq]
            exact this
          have at_ : ∀ j, l[(A ++ a).length + j]? = (94 :: (b ++ B))[j]? := fun j => by
            rw [el, List.getElem?_append_right (Nat.le_add_right _ _), Nat.add_sub_cancel_left]
          refine absurd ⟨dgt x (by rw [eb]; simp), dgt y (by rw [eb]; simp), dgt w (by rw [eb]; simp)⟩ (h (A ++ a).length ?_ x y w ?_ ?_ ?_)
          · have := at_ 0
            rw [Nat.add_zero] at this
            rw [this]
            rfl
          · rw [at_ 1, eb]; rfl
          · rw [at_ 2, eb]; rfl
          · rw [at_ 3, eb]; rfl
      have := digitsVal_small ad
      have p2 : 10 ^ b.length ≤ 10 ^ 2 := Nat.pow_le_pow_right (by decide) lb
      show digitsVal b ≤ 1000
      omega
    · rw [if_neg c] at hk'; cases hk'
/-- of the two signs that stand second and third behind a ^ none is a digit -/
def Gap (l : List Nat) : Prop := ∀ i, l[i]? = some 94 → (∀ b, l[i + 2]? = some b → isDg b = false) ∧ (∀ c, l[i + 3]? = some c → isDg c = false)
theorem few_bent {W sg : List Nat} {cut d : Nat} (g : Gap W) (hs : sg.length ≤ 1) (h94 : 94 ∉ sg) (hd : d ≤ 1) (hc : cut ≤ W.length) : Few2 (W.take cut ++ sg ++ W.drop (cut + d)) := by
  intro i e0 a b c e1 e2 e3 ⟨da, db, dc⟩
  have lt : (W.take cut).length = cut := by rw [List.length_take]; omega
  have left : ∀ j, j < cut → (W.take cut ++ sg ++ W.drop (cut + d))[j]? = W[j]? := fun j hj => by
    rw [List.append_assoc, List.getElem?_append_left (by rw [lt]; exact hj), List.getElem?_take_of_lt hj]
  have right : ∀ j, cut + sg.length ≤ j → (W.take cut ++ sg ++ W.drop (cut + d))[j]? = W[j - sg.length + d]? := fun j hj => by
    rw [List.getElem?_append_right (by rw [List.length_append, lt]; exact hj), List.length_append, lt, List.getElem?_drop]
    congr 1
    omega
  have mid : ∀ j, cut ≤ j → j < cut + sg.length → (W.take cut ++ sg ++ W.drop (cut + d))[j]? = sg[j - cut]? := fun j h1 h2 => by
    rw [List.getElem?_append_left (by rw [List.length_append, lt]; exact h2), List.getElem?_append_right (by rw [lt]; exact h1), lt]
  have no : ∀ {x y : Bool}, x = true → x = false → False := fun p q => by rw [p] at q; cases q
  by_cases h1 : i < cut
  · rw [left i h1] at e0
    obtain ⟨g2, g3⟩ := g i e0
    by_cases h2 : i + 2 < cut
    · rw [left _ h2] at e2
      exact no (y := true) db (g2 b e2)
    · by_cases h3 : cut = i + 2
      · by_cases hsz : sg.length = 0
        · rw [right _ (by omega)] at e2
          rcases Nat.lt_or_ge d 1 with hd0 | hd1
          · rw [show i + 2 - sg.length + d = i + 2 by omega] at e2
            exact no (y := true) db (g2 b e2)
          · rw [show i + 2 - sg.length + d = i + 3 by omega] at e2
            exact no (y := true) db (g3 b e2)
        · rw [right _ (by omega)] at e3
          rcases Nat.lt_or_ge d 1 with hd0 | hd1
          · rw [show i + 3 - sg.length + d = i + 2 by omega] at e3
            exact no (y := true) dc (g2 c e3)
          · rw [show i + 3 - sg.length + d = i + 3 by omega] at e3
            exact no (y := true) dc (g3 c e3)
      · have h4 : cut = i + 1 := by omega
        by_cases hsz : sg.length = 0
        · rw [right _ (by omega)] at e2
          rcases Nat.lt_or_ge d 1 with hd0 | hd1
          · rw [show i + 2 - sg.length + d = i + 2 by omega] at e2
            exact no (y := true) db (g2 b e2)
          · rw [show i + 2 - sg.length + d = i + 3 by omega] at e2
            exact no (y := true) db (g3 b e2)
        · rw [right _ (by omega)] at e3
          rcases Nat.lt_or_ge d 1 with hd0 | hd1
          · rw [show i + 3 - sg.length + d = i + 2 by omega] at e3
            exact no (y := true) dc (g2 c e3)
          · rw [show i + 3 - sg.length + d = i + 3 by omega] at e3
            exact no (y := true) dc (g3 c e3)
  · by_cases h2 : i < cut + sg.length
    · rw [mid i (by omega) h2] at e0
      exact h94 (List.mem_of_getElem? e0)
    · rw [right i (by omega)] at e0
      rw [right (i + 2) (by omega), show i + 2 - sg.length + d = i - sg.length + d + 2 by omega] at e2
      exact no (y := true) db ((g _ e0).1 b e2)
theorem Gap.cons {c : Nat} {l : List Nat} (h : Gap l) (hc : c ≠ 94) : Gap (c :: l) := fun i e => by
  cases i with
  | zero => exact absurd (Option.some.inj e) hc
  | succ i => exact h i e
theorem Gap.app : ∀ {p l : List Nat}, Gap l → 94 ∉ p → Gap (p ++ l)
  | [], l, h, _ => h
  | c :: p, l, h, hp => by
    show Gap (c :: (p ++ l))
    exact Gap.cons (Gap.app h fun z => hp (List.mem_cons_of_mem _ z)) fun z => hp (by rw [z]; exact List.mem_cons_self)
theorem Gap.nil : Gap [] := fun i e => (nomatch e)
theorem gap_shL : ∀ (ps : List (Nat × Nat)), (∀ p ∈ ps, 1 ≤ p.2 ∧ p.2 ≤ 9) → Gap (shL ps)
  | [], _ => Gap.nil
  | p :: r, h => by
    obtain ⟨h1, h9⟩ := h p List.mem_cons_self
    have ih := gap_shL r fun q hq => h q (List.mem_cons_of_mem _ hq)
    -- what follows the part
    obtain ⟨T, eT, gT, tail⟩ : ∃ T, shL (p :: r) = pL p.1 p.2 ++ T ∧ Gap T ∧ (T = [] ∨ ∃ T', T = 44 :: 32 :: T') := by
      cases r with
      | nil => exact ⟨[], by show pL p.1 p.2 = _; rw [List.append_nil], Gap.nil, .inl rfl⟩
      | cons q s => exact ⟨[44, 32] ++ shL (q :: s), rfl, Gap.app ih (by decide), .inr ⟨_, rfl⟩⟩
    rw [eT]
    unfold pL
    have free : 94 ∉ numL p.1 := numL_free (.inr (by decide))
    by_cases c : p.2 = 1
    · rw [if_pos c, List.append_nil]
      exact Gap.app gT free
    · rw [if_neg c, numL_lt (show p.2 < 10 by omega), List.append_assoc]
      refine Gap.app ?_ free
      show Gap (94 :: (48 + p.2) :: T)
      intro i e
      cases i with
      | zero =>
        rcases tail with z | ⟨T', z⟩
        · rw [z]
          exact ⟨fun b hb => (nomatch hb), fun b hb => (nomatch hb)⟩
        · rw [z]
          exact ⟨fun b hb => by rw [← Option.some.inj hb]; decide, fun b hb => by rw [← Option.some.inj hb]; decide⟩
      | succ i => exact (Gap.cons gT (by omega)) i e
end Sq
namespace Sq
open PySem PySem.Spec PyProof.Rows L2 TL
open NumText (digitsVal AllDigits)
/-- any part, cut at its first ^ -/
theorem part_any (y : Str) : ∃ D M N : Str, Txt.partition y "^" = (D, M, N) ∧ D.length ≤ y.length ∧ N.length ≤ y.length ∧
    ((M.length = 0 ∧ rPart (tl y) = if numOk (tl D) = true then some (digitsVal (tl D), 1) else none) ∨ (M.length = 1 ∧ rPart (tl y) = if (numOk (tl D) && numOk (tl N)) = true then some (digitsVal (tl D), digitsVal (tl N)) else none)) := by
  have e := partition_par y "^" (by rw [signs_hat]; simp)
  rw [signs_hat] at e
  cases hp : par [94] [] (tl y) with
  | none =>
    rw [hp] at e
    refine ⟨y, Str.empty, Str.empty, e, Nat.le_refl _, Nat.zero_le _, .inl ⟨rfl, ?_⟩⟩
    unfold rPart
    rw [hp]
  | some ab =>
    obtain ⟨a, b⟩ := ab
    rw [hp] at e
    have es := par_some _ _ _ _ hp
    have el := congrArg List.length es
    rw [List.nil_append, List.length_append, List.length_cons] at el
    refine ⟨⟨a.toArray⟩, "^", ⟨b.toArray⟩, e, ?_, ?_, .inr ⟨by decide +kernel, ?_⟩⟩
    · rw [len_tl, len_tl, tl_mk]
      omega
    · rw [len_tl, len_tl, tl_mk]
      omega
    · unfold rPart
      rw [hp]
end Sq

set_option Elab.async false
set_option linter.all false
set_option maxRecDepth 100000
set_option maxHeartbeats 1000000
/-! Texts of lists: what the laws share. -/
namespace Sq
open PySem PySem.Spec PyProof.Rows L2
open TL (numL numL_len)
theorem gd_str {x : Str} {n : Nat} (h : ∀ c ∈ TL.tl x, c < 16 ^ 8) (l : x.length ≤ n) : Gd n (.str x) := by
  refine ⟨rfl, rfl, Nat.zero_le _, ?_, ?_⟩
  · show (x.cps.toList.all fun c => decide (c < 16 ^ 8)) = true
    rw [List.all_eq_true]
    exact fun c hc => decide_eq_true (h c hc)
  · exact l
theorem numL_low (n : Nat) : ∀ c ∈ numL n, c < 128 := fun c hc => by have := TL.numL_digits n c hc; omega
theorem pL_low (n k : Nat) : ∀ c ∈ pL n k, c < 128 := fun c hc => by
  unfold pL at hc
  rcases List.mem_append.mp hc with z | z
  · exact numL_low n c z
  · split at z
    · cases z
    · rcases List.mem_cons.mp z with e | e
      · rw [e]; decide
      · exact numL_low k c e
theorem joinL_low {S : List Nat} (hS : ∀ c ∈ S, c < 128) : ∀ (ps : List (List Nat)), (∀ p ∈ ps, ∀ c ∈ p, c < 128) → ∀ c ∈ TL.joinL S ps, c < 128
  | [], _, c, h => nomatch h
  | [p], h, c, hc => h p List.mem_cons_self c hc
  | p :: q :: r, h, c, hc => by
    have hc' : c ∈ p ++ (S ++ TL.joinL S (q :: r)) := hc
    rcases List.mem_append.mp hc' with z | z
    · exact h p List.mem_cons_self c z
    · rcases List.mem_append.mp z with z | z
      · exact hS c z
      · exact joinL_low hS (q :: r) (fun p hp => h p (List.mem_cons_of_mem _ hp)) c z
theorem txtL_low (ps : List (Nat × Nat)) : ∀ c ∈ txtL ps, c < 128 := fun c hc => by
  unfold txtL at hc
  split at hc
  · simp only [List.mem_cons, List.not_mem_nil, or_false] at hc
    omega
  · exact joinL_low (by decide) _ (fun p hp => by obtain ⟨q, _, rfl⟩ := List.mem_map.mp hp; exact pL_low _ _) c hc
theorem lenG {ks : List Int} (h : ks.length ≤ 15000) : ∀ ps, Grp ks ps → ps.length ≤ 15000 := fun ps g => Nat.le_trans g.len.1 h
/-- every list of numbers that aren't negative has its groups -/
theorem grp_ex : ∀ (ks : List Int), (∀ k ∈ ks, 0 ≤ k) → ∃ ps, Grp ks ps := fun ks => by
  have key : ∀ n, n ≤ ks.length → (∀ k ∈ ks, 0 ≤ k) → ∃ ps, Grp (ks.take n) ps := fun n => by
    induction n with
    | zero => exact fun _ _ => ⟨[], by rw [List.take_zero]; exact Grp.nil⟩
    | succ n ih =>
      intro hn h0
      obtain ⟨ps, G⟩ := ih (by omega) h0
      have lt : n < ks.length := by omega
      have hk := h0 _ (List.getElem_mem lt)
      obtain ⟨k, ek⟩ : ∃ k : Nat, ks[n] = (k : Int) := ⟨ks[n].toNat, (Int.toNat_of_nonneg hk).symm⟩
      have tk : ks.take (n + 1) = ks.take n ++ [(k : Int)] := by
        rw [List.take_add_one, List.getElem?_eq_getElem lt, ek]
        rfl
      rw [tk]
      by_cases c : lastN none ps = some (k : Int)
      · rcases List.eq_nil_or_concat ps with e | ⟨qs, p, e⟩
        · rw [e] at c; cases c
        · rw [e, List.concat_eq_append] at c G
          rw [lastN_snoc] at c
          obtain ⟨x, m⟩ := p
          have : x = k := Int.ofNat.inj (Option.some.inj c)
          subst this
          exact ⟨_, G.more⟩
      · exact ⟨_, G.new c⟩
  intro h
  have := key ks.length (Nat.le_refl _) h
  rwa [List.take_length] at this
theorem txt_len {ks : List Int} {ps : List (Nat × Nat)} (G : Grp ks ps) (hl : ks.length ≤ 12) (h : ∀ k ∈ ks, 2 ≤ k ∧ k ≤ 1000000) : (txtL ps).length ≤ 300 := by
  unfold txtL
  split
  · decide
  · have b := G.len
    have j := join_len [44, 32] (ps.map fun p => pL p.1 p.2) 20 fun x hx => by
      obtain ⟨p, hp, rfl⟩ := List.mem_map.mp hx
      have p1 := h _ (G.mem p hp)
      have p2 := b.2 p hp
      have p3 : (numL p.1).length ≤ 7 := numL_len (by decide) (by omega)
      have p4 : (numL p.2).length ≤ 2 := numL_len (by decide) (by omega)
      unfold pL
      rw [List.length_append]
      split
      · simp only [List.length_nil]
        omega
      · rw [List.length_cons]
        omega
    rw [List.length_map] at j
    have j3 : (TL.joinL [44, 32] (ps.map fun p => pL p.1 p.2)).length ≤ ps.length * (20 + 2) := j
    show (TL.joinL [44, 32] (ps.map fun p => pL p.1 p.2)).length ≤ _
    omega

theorem in_infix {x y : Str} {A B : List Nat} (hy : TL.tl y ≠ []) (h : TL.tl x = A ++ TL.tl y ++ B) : (!(Builtin.Str.occurrences x y 0 x.length 1).isEmpty) = true := by
  refine (StrLaws.found_iff x y).mpr ⟨A.length, (TL.at_iff hy A.length).mpr ?_⟩
  rw [h, List.append_assoc, List.drop_left]
  exact TL.pre_self _ _
theorem part_infix : ∀ (ps : List (Nat × Nat)) (p : Nat × Nat), p ∈ ps → p.2 ≠ 1 → ∃ A B, shL ps = A ++ (94 :: numL p.2) ++ B
  | [], p, h, _ => nomatch h
  | q :: r, p, h, hk => by
    have cut : ∃ T, shL (q :: r) = pL q.1 q.2 ++ T ∧ (r ≠ [] → T = [44, 32] ++ shL r) := by
      cases r with
      | nil => exact ⟨[], by show pL q.1 q.2 = _; rw [List.append_nil], fun z => absurd rfl z⟩
      | cons q2 s => exact ⟨[44, 32] ++ shL (q2 :: s), rfl, fun _ => rfl⟩
    obtain ⟨T, e1, e2⟩ := cut
    rcases List.mem_cons.mp h with z | z
    · subst z
      refine ⟨numL p.1, T, ?_⟩
      rw [e1]
      unfold pL
      rw [if_neg hk]
    · obtain ⟨A, B, e⟩ := part_infix r p z hk
      refine ⟨pL q.1 q.2 ++ [44, 32] ++ A, B, ?_⟩
      rw [e1, e2 (fun z2 => by rw [z2] at z; cases z), e]
      simp [List.append_assoc]
theorem small_dec {l : List Nat} (h : ((TL.spl [44, 32] 0 [] l).all fun p => match rPart p with | some (_, k) => decide (k ≤ 1000) | none => true) = true) : Small l := fun p hp n k e => by
  have := List.all_eq_true.mp h p hp
  rw [e] at this
  exact of_decide_eq_true this
theorem cutS_take (z : Str) (n : Nat) (h : n ≤ z.length) : TL.tl (cutS z none (some (n : Int))) = (TL.tl z).take n := by
  show ((z.cps.toList.drop (HT.sIx z.length 0 none)).take (HT.sIx z.length z.length (some (n : Int)) - HT.sIx z.length 0 none)) = _
  rw [HT.sIx_nat, HT.sIx_none, List.drop_zero, Nat.min_eq_left h, Nat.sub_zero]
theorem cutS_drop (z : Str) (n : Nat) : TL.tl (cutS z (some (n : Int)) none) = (TL.tl z).drop n := by
  show ((z.cps.toList.drop (HT.sIx z.length 0 (some (n : Int)))).take (HT.sIx z.length z.length none - HT.sIx z.length 0 (some (n : Int)))) = _
  have e : z.length = (TL.tl z).length := TL.len_tl z
  rw [HT.sIx_nat, HT.sIx_none]
  by_cases h : n ≤ z.length
  · rw [Nat.min_eq_left h, List.take_of_length_le (by rw [List.length_drop]; show (TL.tl z).length - n ≤ _; omega)]
  · rw [Nat.min_eq_right (by omega), Nat.sub_self, List.take_zero]
    exact (List.drop_of_length_le (by omega)).symm
end Sq

set_option Elab.async false
set_option linter.all false
set_option maxRecDepth 100000
set_option maxHeartbeats 1000000
/-! What is asked of the handled error in its suite, whatever its class. -/
namespace Sq
open PySem PySem.Spec PyProof.Rows L2
section
variable {X : Cx} {p : Addr × Obj} {cls : Value} {d : Option Addr}
def rIsiG (K : PySem.W.Frag) (a : Addr) (cls : Value) (d : Option Addr) : List V → Hp → VK → Prop := fun xs H Q => ∃ (C dd : Addr) (v c : V) (u : Value) (b : Bool), cls = .ref C ∧ d = some dd ∧ xs = [.ref a, c] ∧ ClsV c u ∧ H dd = some (exd dd [(("value" : Str), v)]) ∧ ExcC K C ∧ PySem.W.kitOne K (.ref C) u = some b ∧ Q (.bl b) H
theorem call_isiG (hp : p ∈ X.pn) (hz : L2N.Zn cls d p.2) (hf : ∃ vs, p.2.data = .fields vs) : CallR X (.builtin "isinstance") (rIsiG X.K p.1 cls d) := by
  intro pins s σ H xs us Q I r h
  obtain ⟨C, dd, v, c, u, b, rfl, rfl, e1, e2, e3, e4, e5, q⟩ := h
  exact call_isiP (C := C) (d := dd) hp hz hf pins s σ H xs us Q I r ⟨v, c, u, b, e1, e2, e3, e4, e5, q⟩
def rIsiGT (K : PySem.W.Frag) (a : Addr) (cls : Value) (d : Option Addr) : List V → Hp → VK → Prop := fun xs H Q => ∃ (C dd tp : Addr) (v : V) (cs : List V) (us : List Value) (b : Bool), cls = .ref C ∧ d = some dd ∧ xs = [.ref a, .ref tp] ∧ H tp = some (.tup cs) ∧ Paired ClsV cs us ∧ H dd = some (exd dd [(("value" : Str), v)]) ∧ ExcC K C ∧ PySem.W.kitAny K (.ref C) us = some b ∧ Q (.bl b) H
theorem call_isiGT (hp : p ∈ X.pn) (hz : L2N.Zn cls d p.2) (hf : ∃ vs, p.2.data = .fields vs) : CallR X (.builtin "isinstance") (rIsiGT X.K p.1 cls d) := by
  intro pins s σ H xs vs Q I r h
  obtain ⟨C, dd, tp, v, cs, us, b, rfl, rfl, rfl, ht, pc, at_, T, e, q⟩ := h
  obtain ⟨u1, u2, rfl, r1, r2⟩ := vals2 r
  obtain rfl : u1 = Value.ref p.1 := r1
  obtain rfl : u2 = Value.ref tp := r2
  obtain ⟨od, uv, J, _, _⟩ := pin_obj I hp hz hf at_
  obtain ⟨few, its, rv, ob, there, isT, n, data⟩ := (show ObjOk X.prog X.w H s.heap tp (.tup cs) from I.hok tp _ ht)
  have same := ClsV.all pc rv
  subst same
  obtain ⟨oc, dct, dt, sl⟩ := ob
  simp only at isT data
  subst isT data
  exact PySem.W.kia_tup (SqX.kit (ox := p.2) (od := some od) T) I.kIn J there e (fun z => nomatch z) fun tk => ⟨.bl b, H, I.tok tk, rfl, q⟩
def tGv (K : PySem.W.Frag) (a : Addr) (cls : Value) (d : Option Addr) (te : TE) : TE := fun σ H Q => te σ H fun x H1 => ∃ (C dd : Addr) (v : V), cls = .ref C ∧ d = some dd ∧ x = .ref a ∧ H1 dd = some (exd dd [(("value" : Str), v)]) ∧ XfC K C ∧ PySem.W.findIn K (.ref C) "value" = some none ∧ Q v H1
theorem pe_gv {e : Expr} {te : TE} {pos : Pos} (hp : p ∈ X.pn) (hz : L2N.Zn cls d p.2) (hf : ∃ vs, p.2.data = .fields vs) (he : PE X e te) (hb : attributeBase e "value" X.env (eval e X.env) = eval e X.env := by rfl) : PE X (.Attribute e "value" pos) (tGv X.K p.1 cls d te) := by
  refine ⟨fun pins s σ H Q I h => ?_⟩
  refine attr_of hb (thn (he.run pins s σ H _ I h) fun u s1 hh => ?_)
  obtain ⟨x, H1, I1, rx, C, dd, v, rfl, rfl, ex, at_, T, hno, q⟩ := hh
  subst ex
  obtain rfl : u = Value.ref p.1 := rx
  obtain ⟨od, uv, J, l, ru⟩ := pin_obj I1 hp hz hf at_
  exact HandSPX.exc_get I1.kIn J T.ga T.gg T.exC (PySem.W.findObj_own T.hdC hno rfl l) (handed_of ru) ⟨v, H1, I1.tok _, ru, q⟩
end
section
variable {X : Cx} {a : Addr} {oe : Obj} {cls : Value} {d : Option Addr} {pn : List (Addr × Obj)}
theorem call_isiS (hz : L2N.Zn cls d oe) (hf : ∃ vs, oe.data = .fields vs) : CallR (X.suite a ((a, oe) :: pn)) (.builtin "isinstance") (rIsiG X.K a cls d) := call_isiG (X := X.suite a ((a, oe) :: pn)) (p := (a, oe)) List.mem_cons_self hz hf
theorem call_isiST (hz : L2N.Zn cls d oe) (hf : ∃ vs, oe.data = .fields vs) : CallR (X.suite a ((a, oe) :: pn)) (.builtin "isinstance") (rIsiGT X.K a cls d) := call_isiGT (X := X.suite a ((a, oe) :: pn)) (p := (a, oe)) List.mem_cons_self hz hf
theorem pe_sv {e : Expr} {te : TE} {pos : Pos} (hz : L2N.Zn cls d oe) (hf : ∃ vs, oe.data = .fields vs) (he : PE (X.suite a ((a, oe) :: pn)) e te) (hb : attributeBase e "value" X.env (eval e X.env) = eval e X.env := by rfl) :
    PE (X.suite a ((a, oe) :: pn)) (.Attribute e "value" pos) (tGv X.K a cls d te) := pe_gv (X := X.suite a ((a, oe) :: pn)) (p := (a, oe)) List.mem_cons_self hz hf he hb
end
end Sq

set_option Elab.async false
set_option linter.all false
set_option maxRecDepth 100000
set_option maxHeartbeats 1000000
/-! A def that may raise, called where it doesn't; keywords of such a def. -/
namespace Sq
open PySem PySem.Spec PyProof.Rows L2
/-- as a def that lets nothing out -/
theorem calmly {P : Program} {w : World} {K : PySem.W.Frag} {mg : Str → Option Value} {base : Heap} {k : Nat} {f : Addr} {fd : FuncData} {ps : List Str} {sp : Sp} (G : FnOk P w K mg base (L2N.CX P w) k f fd ps sp) :
    FnOk P w K mg base CX0 k f fd ps (fun vs H Q _ => sp vs H Q fun _ _ _ => False) := by
  refine ⟨fun vs H Q E h => G.len _ _ _ _ h, fun A outer s H args us vs Q E hr e0 hb hv h => ?_⟩
  refine codeAny_mono (G.run A outer s H args us vs Q (fun _ _ _ => False) hr e0 hb hv h) fun r s' hq => ?_
  cases r with
  | error u =>
    obtain ⟨_, _, _, _, _, _, _, _, _, _, _, _, z⟩ := (show L2N.CX P w outer H s (fun _ _ _ => False) u s' from hq)
    exact z.elim
  | ok fl =>
    cases fl with
    | ret u => exact hq
    | next => exact hq
    | brk => exact hq
    | cont => exact hq
structure Dnk (P : Program) (w : World) (K : PySem.W.Frag) (mg : Str → Option Value) (base : Heap) (k : Nat) (x : Str) (ps ks : List Str) (g : List Value → List Value → List Value) (gV : List V → List V → List V) (sp : Sp) : Prop where
  ex : ∃ f fd, FnOk P w K mg base (L2N.CX P w) k f fd ps sp ∧ mg x = some (.ref f) ∧ PySem.W.keepIn K (.ref f) = true ∧ KBn K fd ps 0 ks g gV
theorem kbn_mk {K : PySem.W.Frag} {x qual : Str} {st : Stmt} {f : Addr} {fd : FuncData} {ps : List Str} (F : Fun K x qual st f fd) (ks : List Str) (g : List Value → List Value → List Value) (gV : List V → List V → List V)
    (rel : ∀ {vs : List V} {us : List Value} {zs : List V} {ws : List Value}, Vals vs us → Vals zs ws → Vals (gV vs zs) (g us ws))
    (h : ∀ (kV doc pm : Value) (an : Option Addr) (cdv ct : Value) (ws : List Value), ws.length = ks.length → bindArgs (PySem.W.fnOf x qual (defArgs st) (defBody st) (defScope st) .none kV doc pm an cdv ct) ⟨[], ks.zip ws⟩ = pure (ps.zip (g [] ws))) : KBn K fd ps 0 ks g gV := by
  obtain ⟨oc, od, kV, doc, pm, an, cdv, ct, osl, rfl, lk, hcd⟩ := F.ex
  refine ⟨fun s us ws X l1 l2 => ?_, rel⟩
  obtain rfl : us = [] := List.length_eq_zero_iff.mp l1
  exact .of_eq (h kV doc pm an cdv ct ws l2)
/-- three values in another order -/
def perm3 {α : Type} (i j k : Nat) : List α → List α → List α := fun _ zs => match zs with
  | [x, y, z] => [[x, y, z].getD i x, [x, y, z].getD j x, [x, y, z].getD k x]
  | _ => []
def perm4 {α : Type} (i j k l : Nat) : List α → List α → List α := fun _ zs => match zs with
  | [x, y, z, u] => [[x, y, z, u].getD i x, [x, y, z, u].getD j x, [x, y, z, u].getD k x, [x, y, z, u].getD l x]
  | _ => []
end Sq

set_option Elab.async false
set_option linter.all false
set_option maxRecDepth 100000
set_option maxHeartbeats 2000000
/-! Objects of an own class: made, their methods called, their properties read, where these may raise too. -/
namespace Sq
open PySem PySem.Spec PyProof.Rows L2
section
variable {X : Cx} {CX : CXT} {k n : Nat} {f C : Addr} {fd : FuncData} {ps ks : List Str} {sp : Sp} {E : XK} {g : List Value → List Value → List Value} {gV : List V → List V → List V}
theorem run_fnKS {pins : List (Addr × Obj)} {σ : L2.St} {H : Hp} {s : Shared} {Q : VK} {us ws : List Value} {vs zs : List V} (F : FnOk X.prog X.w X.K X.mg X.base CX k f fd ps sp) (hr : Room k X.A) (hb : KBn X.K fd ps n ks g gV) (hx : PassesAt CX X σ E)
    (I : Inv X pins σ H s) (r : Vals vs us) (rz : Vals zs ws) (l1 : vs.length = n) (l2 : zs.length = ks.length) (h : sp (gV vs zs) H Q E) : wpAny (model X.prog X.w) X.A (call (.ref f) us (ks.zip ws)) (EP X pins σ Q) X.xe s := by
  have r2 := hb.rel r rz
  refine wpAny_call (codeAny_mono (F.run X.A X.stack s H ⟨us, ks.zip ws⟩ (g us ws) (gV vs zs) Q E hr I.env0 (hb.to s us ws I.kIn (r.length.symm.trans l1) (rz.length.symm.trans l2)) r2 h) fun r s' hq => ?_)
  cases r with
  | error e => exact hx pins H s e s' I hq
  | ok fl =>
    cases fl with
    | ret u => exact I.after hq
    | next => exact False.elim hq
    | brk => exact False.elim hq
    | cont => exact False.elim hq
theorem run_makeS {pins : List (Addr × Obj)} {σ : L2.St} {H : Hp} {s : Shared} {Q : VK} {us : List Value} {vs : List V} (M : Mk X.K C f) (F : FnOk X.prog X.w X.K X.mg X.base CX k f fd ps sp) (hr : Room (k + 1) X.A) (hb : Binds X.K fd ps [])
    (hx : PassesAt CX X σ E) (I : Inv X pins σ H s) (r : Vals vs us)
    (h : ∀ x dx, H x = none → H dx = none → dx ≠ x → sp (.ref x :: vs) (upd (upd H dx (.own x)) x (.ins C dx [])) (fun v H2 => v = .non ∧ Q (.ref x) H2) E) :
    wpAny (model X.prog X.w) X.A (call (.ref C) us) (EP X pins σ Q) X.xe s := by
  have hq := h (s.heap.objs.size + 1) s.heap.objs.size (I.hok.fresh (Nat.le_succ _)) (I.hok.fresh (Nat.le_refl _)) (Nat.ne_of_lt (Nat.lt_succ_self _))
  have I2 := Inv.made (C := C) I
  have r2 : Vals (V.ref (s.heap.objs.size + 1) :: vs) (Value.ref (s.heap.objs.size + 1) :: us) := .cons rfl r
  have hl : (Value.ref (s.heap.objs.size + 1) :: us ++ []).length = ps.length := by
    have e := r2.length
    rw [F.len _ _ _ _ hq] at e
    rw [List.append_nil]
    exact e.symm
  have b := hb _ (Value.ref (s.heap.objs.size + 1) :: us) I2.kIn hl
  rw [List.append_nil] at b
  refine wpAny_call (make_map (f := f) I.kIn M.makes M.init (beq_iff_eq.mp M.fn) (codeAny_mono (F.run _ X.stack _ _ ⟨Value.ref (s.heap.objs.size + 1) :: us, []⟩ (Value.ref (s.heap.objs.size + 1) :: us) _ _ E (hr.make C us [])
    (I2.env0.make C us []) b r2 hq) fun r s' hq' => ?_))
  cases r with
  | error e => exact hx pins _ _ e s' I2 hq'
  | ok fl =>
    cases fl with
    | ret u =>
      obtain ⟨v, H', I3, rv, ev, q3⟩ := I2.after hq'
      subst ev
      exact ⟨rv, ⟨V.ref (s.heap.objs.size + 1), H', I3, rfl, q3⟩⟩
    | next => exact False.elim hq'
    | brk => exact False.elim hq'
    | cont => exact False.elim hq'
theorem run_makeKS {pins : List (Addr × Obj)} {σ : L2.St} {H : Hp} {s : Shared} {Q : VK} {ws : List Value} {zs : List V} (M : Mk X.K C f) (F : FnOk X.prog X.w X.K X.mg X.base CX k f fd ps sp) (hr : Room (k + 1) X.A) (hb : KBn X.K fd ps 1 ks g gV)
    (hx : PassesAt CX X σ E) (I : Inv X pins σ H s) (rz : Vals zs ws) (l2 : zs.length = ks.length)
    (h : ∀ x dx, H x = none → H dx = none → dx ≠ x → sp (gV [.ref x] zs) (upd (upd H dx (.own x)) x (.ins C dx [])) (fun v H2 => v = .non ∧ Q (.ref x) H2) E) :
    wpAny (model X.prog X.w) X.A (call (.ref C) [] (ks.zip ws)) (EP X pins σ Q) X.xe s := by
  have hq := h (s.heap.objs.size + 1) s.heap.objs.size (I.hok.fresh (Nat.le_succ _)) (I.hok.fresh (Nat.le_refl _)) (Nat.ne_of_lt (Nat.lt_succ_self _))
  have I2 := Inv.made (C := C) I
  have r1 : Vals [V.ref (s.heap.objs.size + 1)] [Value.ref (s.heap.objs.size + 1)] := .cons rfl .nil
  have r2 := hb.rel r1 rz
  have e2 : ws.length = ks.length := rz.length.symm.trans l2
  refine wpAny_call (make_map (f := f) I.kIn M.makes M.init (beq_iff_eq.mp M.fn) (codeAny_mono (F.run _ X.stack _ _ ⟨[Value.ref (s.heap.objs.size + 1)], ks.zip ws⟩ (g [Value.ref (s.heap.objs.size + 1)] ws) _ _ E (hr.make C [] (ks.zip ws))
    (I2.env0.make C [] (ks.zip ws)) (hb.to _ [Value.ref (s.heap.objs.size + 1)] ws I2.kIn rfl e2) r2 hq) fun r s' hq' => ?_))
  cases r with
  | error e => exact hx pins _ _ e s' I2 hq'
  | ok fl =>
    cases fl with
    | ret u =>
      obtain ⟨v, H', I3, rv, ev, q3⟩ := I2.after hq'
      subst ev
      exact ⟨rv, ⟨V.ref (s.heap.objs.size + 1), H', I3, rfl, q3⟩⟩
    | next => exact False.elim hq'
    | brk => exact False.elim hq'
    | cont => exact False.elim hq'
end
/-- a method of the class at C -/
structure Mt (CXf : CXT) (P : Program) (w : World) (K : PySem.W.Frag) (mg : Str → Option Value) (base : Heap) (k : Nat) (C : Addr) (m : Str) (ps : List Str) (sp : Sp) : Prop where
  ex : ∃ f fd, FnOk P w K mg base CXf k f fd ps sp ∧ Meth K C m f ∧ Binds K fd ps []
  cl : Cls K C
/-- .. called by keywords alone -/
structure MtK (CXf : CXT) (P : Program) (w : World) (K : PySem.W.Frag) (mg : Str → Option Value) (base : Heap) (k : Nat) (C : Addr) (m : Str) (ps ks : List Str) (gV : List V → List V → List V) (sp : Sp) : Prop where
  ex : ∃ f fd g, FnOk P w K mg base CXf k f fd ps sp ∧ Meth K C m f ∧ KBn K fd ps 1 ks g gV
  cl : Cls K C
/-- the making of an object -/
structure Mx (CXf : CXT) (P : Program) (w : World) (K : PySem.W.Frag) (mg : Str → Option Value) (base : Heap) (k : Nat) (x : Str) (C : Addr) (ps : List Str) (sp : Sp) : Prop where
  ex : ∃ f fd, Mk K C f ∧ FnOk P w K mg base CXf k f fd ps sp ∧ Binds K fd ps []
  at_ : mg x = some (.ref C)
structure MxK (CXf : CXT) (P : Program) (w : World) (K : PySem.W.Frag) (mg : Str → Option Value) (base : Heap) (k : Nat) (x : Str) (C : Addr) (ps ks : List Str) (gV : List V → List V → List V) (sp : Sp) : Prop where
  ex : ∃ f fd g, Mk K C f ∧ FnOk P w K mg base CXf k f fd ps sp ∧ KBn K fd ps 1 ks g gV
  at_ : mg x = some (.ref C)
/-- a property -/
structure Pr (P : Program) (w : World) (K : PySem.W.Frag) (mg : Str → Option Value) (base : Heap) (k : Nat) (C : Addr) (m : Str) (sp : Sp) : Prop where
  ex : ∃ p g fd, PropOf K C m p g ∧ FnOk P w K mg base CX0 k g fd ["self"] sp ∧ Binds K fd ["self"] []
  cl : Cls K C
def tM (C : Addr) (m : Str) (sp : Sp) (E : L2.St → XK) (ta : TE) (t : TA) : TE := fun σ H Q => ta σ H fun x H1 => ∃ a dx fs, x = .ref a ∧ H1 a = some (.ins C dx fs) ∧ fs.lookup m = none ∧ t σ H1 fun vs H2 => sp (x :: vs) H2 Q (E σ)
def tMK (C : Addr) (m : Str) (l : Nat) (gV : List V → List V → List V) (sp : Sp) (E : L2.St → XK) (ta : TE) (tk : TA) : TE := fun σ H Q => ta σ H fun x H1 => ∃ a dx fs, x = .ref a ∧ H1 a = some (.ins C dx fs) ∧ fs.lookup m = none ∧ tk σ H1 fun zs H2 => zs.length = l ∧ sp (gV [x] zs) H2 Q (E σ)
def tMx (C : Addr) (sp : Sp) (E : L2.St → XK) (t : TA) : TE := fun σ H Q => t σ H fun vs H1 => ∀ x dx, H1 x = none → H1 dx = none → dx ≠ x → sp (.ref x :: vs) (upd (upd H1 dx (.own x)) x (.ins C dx [])) (fun v H2 => v = .non ∧ Q (.ref x) H2) (E σ)
def tMxK (C : Addr) (l : Nat) (gV : List V → List V → List V) (sp : Sp) (E : L2.St → XK) (tk : TA) : TE := fun σ H Q => tk σ H fun zs H1 => zs.length = l ∧ ∀ x dx, H1 x = none → H1 dx = none → dx ≠ x → sp (gV [.ref x] zs) (upd (upd H1 dx (.own x)) x (.ins C dx [])) (fun v H2 => v = .non ∧ Q (.ref x) H2) (E σ)
theorem at0 {X : Cx} : ∀ σ, PassesAt CX0 X σ ((fun _ => E0 : L2.St → XK) σ) := fun _ _ _ _ _ _ _ h => h.elim
section
variable {X : Cx} {CXf : CXT} {k : Nat} {C : Addr} {m x : Str} {ps ks : List Str} {gV : List V → List V → List V} {sp : Sp} {E : L2.St → XK} {p apos pos : Pos} {o e : Expr} {es : List Expr} {kws : List Keyword} {ta : TE} {t tk : TA} {pl : Sem Bool}
theorem pe_m (D : Mt CXf X.prog X.w X.K X.mg X.base k C m ps sp) (hx : ∀ σ, PassesAt CXf X σ (E σ)) (hr : Room k X.A) (he : PE X o ta) (ha : PA X (e :: es) t)
    (hst : starEach (e :: es) X.env = (false, eval e X.env) :: starEach es X.env := by rfl) (hpl : (backTo pos (starEach es X.env)).any (·.1) = false := by rfl)
    (ht : eval (.Call (.Attribute o m apos) (e :: es) [] pos) X.env = (do
      let ov ← eval o X.env
      standAt apos.atName
      let (f, first) ← holding [ov] (getMethod ov m pl)
      callWith pos f first (backTo pos (starEach (e :: es) X.env)) (backToKw pos (keywordEach [] X.env))) := by rfl) :
    PE X (.Call (.Attribute o m apos) (e :: es) [] pos) (tM C m sp E ta t) := by
  obtain ⟨⟨f, fd, F, hm, hb⟩, c⟩ := D
  refine ⟨fun pins s σ H Q I h => ?_⟩
  refine PySem.W.methodCall_KW (pl := pl) (thn (he.run pins s σ H _ I h) fun u s1 ⟨x, H1, I1, rx, a, dx, fs, ex, ea, l, q⟩ => ?_) ht
  subst ex
  obtain rfl : u = Value.ref a := rx
  refine getmeth_ok I1 ea c hm l ?_
  refine PySem.W.callWith_K (first := [.ref a]) (h₀ := X.base) I.ok.mod.kin hm.kp (thn (ha.run pos pins s1 σ H1 _ I1 q) fun us s2 ⟨vs, H2, I2, r, q2⟩ => ⟨I2.kIn, ?_⟩) hst hpl
  exact run_fnS (us := .ref a :: us) (vs := .ref a :: vs) F hr hb (hx σ) I2 (.cons rfl r) q2
theorem pe_m0c (D : Mt CXf X.prog X.w X.K X.mg X.base k C m ps sp) (hx : ∀ σ, PassesAt CXf X σ (E σ)) (hr : Room k X.A) (he : PE X o ta)
    (ht : eval (.Call (.Attribute o m apos) [] [] pos) X.env = (do
      let ov ← eval o X.env
      standAt apos.atName
      let (f, first) ← holding [ov] (getMethod ov m pl)
      callWith pos f first (backTo pos (starEach [] X.env)) (backToKw pos (keywordEach [] X.env))) := by rfl) :
    PE X (.Call (.Attribute o m apos) [] [] pos) (tM C m sp E ta tNil) := by
  obtain ⟨⟨f, fd, F, hm, hb⟩, c⟩ := D
  refine ⟨fun pins s σ H Q I h => ?_⟩
  refine PySem.W.methodCall_KW (pl := pl) (thn (he.run pins s σ H _ I h) fun u s1 ⟨x, H1, I1, rx, a, dx, fs, ex, ea, l, q⟩ => ?_) ht
  subst ex
  obtain rfl : u = Value.ref a := rx
  refine getmeth_ok I1 ea c hm l ?_
  exact PySem.W.callWith_K0 (first := [.ref a]) I1.kIn hm.kp (run_fnS (us := [.ref a]) (vs := [.ref a]) F hr hb (hx σ) I1 (.cons rfl .nil) q)
theorem pe_mK (D : MtK CXf X.prog X.w X.K X.mg X.base k C m ps ks gV sp) (hx : ∀ σ, PassesAt CXf X σ (E σ)) (hr : Room k X.A) (he : PE X o ta) (hkw : PK X kws tk)
    (hall : (backToKw pos (keywordEach kws X.env)).all (·.1.isSome) = true := by rfl) (hks : (backToKw pos (keywordEach kws X.env)).filterMap (·.1) = ks := by rfl)
    (hpl : ((backTo pos (starEach [] X.env)).any (·.1) || (backToKw pos (keywordEach kws X.env)).any (·.1.isNone)) = false := by rfl)
    (ht : eval (.Call (.Attribute o m apos) [] kws pos) X.env = (do
      let ov ← eval o X.env
      standAt apos.atName
      let (f, first) ← holding [ov] (getMethod ov m pl)
      callWith pos f first (backTo pos (starEach [] X.env)) (backToKw pos (keywordEach kws X.env))) := by rfl) :
    PE X (.Call (.Attribute o m apos) [] kws pos) (tMK C m ks.length gV sp E ta tk) := by
  obtain ⟨⟨f, fd, g, F, hm, hb⟩, c⟩ := D
  refine ⟨fun pins s σ H Q I h => ?_⟩
  refine PySem.W.methodCall_KW (pl := pl) (thn (he.run pins s σ H _ I h) fun u s1 ⟨x, H1, I1, rx, a, dx, fs, ex, ea, l, q⟩ => ?_) ht
  subst ex
  obtain rfl : u = Value.ref a := rx
  refine getmeth_ok I1 ea c hm l ?_
  refine PySem.W.callWith_KW0 (first := [.ref a]) (h₀ := X.base) I.ok.mod.kin hm.kp hall (thn (hkw.run pos pins s1 σ H1 _ I1 q) fun ws s2 ⟨zs, H2, I2, rz, l2, q2⟩ => ⟨I2.kIn, ?_⟩) hpl
  rw [hks]
  exact run_fnKS (us := [.ref a]) (vs := [.ref a]) F hr hb (hx σ) I2 (.cons rfl .nil) rz rfl l2 q2
theorem pe_mx (D : Mx CXf X.prog X.w X.K X.mg X.base k x C ps sp) (hx : ∀ σ, PassesAt CXf X σ (E σ)) (hr : Room (k + 1) X.A) (hg : Gl X x) (ha : PA X (e :: es) t) (hdb : (x == ("__debug__" : Str)) = false := by decide)
    (he : starEach (e :: es) X.env = (false, eval e X.env) :: starEach es X.env := by rfl) (hpl : (backTo pos (starEach es X.env)).any (·.1) = false := by rfl) :
    PE X (.Call (.Name x p) (e :: es) [] pos) (tMx C sp E t) := by
  obtain ⟨⟨f, fd, M, F, hb⟩, hm⟩ := D
  refine ⟨fun pins s σ H Q I h => ?_⟩
  refine wpAny_Call_Name_kw (ld_glob I hg hm ?_ hdb)
  refine PySem.W.callWith_K (h₀ := X.base) I.ok.mod.kin M.kp (thn (ha.run pos pins s σ H _ I h) fun us s1 ⟨vs, H1, I1, r, q⟩ => ⟨I1.kIn, ?_⟩) he hpl
  exact run_makeS M F hr hb (hx σ) I1 r q
theorem pe_mxK (D : MxK CXf X.prog X.w X.K X.mg X.base k x C ps ks gV sp) (hx : ∀ σ, PassesAt CXf X σ (E σ)) (hr : Room (k + 1) X.A) (hg : Gl X x) (hkw : PK X kws tk) (hall : (backToKw pos (keywordEach kws X.env)).all (·.1.isSome) = true := by rfl)
    (hks : (backToKw pos (keywordEach kws X.env)).filterMap (·.1) = ks := by rfl) (hdb : (x == ("__debug__" : Str)) = false := by decide)
    (hpl : ((backTo pos (starEach [] X.env)).any (·.1) || (backToKw pos (keywordEach kws X.env)).any (·.1.isNone)) = false := by rfl) :
    PE X (.Call (.Name x p) [] kws pos) (tMxK C ks.length gV sp E tk) := by
  obtain ⟨⟨f, fd, g, M, F, hb⟩, hm⟩ := D
  refine ⟨fun pins s σ H Q I h => ?_⟩
  refine wpAny_Call_Name_kw (ld_glob I hg hm ?_ hdb)
  refine PySem.W.callWith_KW0 (h₀ := X.base) I.ok.mod.kin M.kp hall (thn (hkw.run pos pins s σ H _ I h) fun ws s1 ⟨zs, H1, I1, rz, l2, q⟩ => ⟨I1.kIn, ?_⟩) hpl
  rw [hks]
  exact run_makeKS M F hr hb (hx σ) I1 rz l2 q
theorem pe_pr {f : Str} (D : Pr X.prog X.w X.K X.mg X.base k C f sp) (hr : Room (k + 1) X.A) (he : PE X e ta) (hab : attributeBase e f X.env (eval e X.env) = eval e X.env := by rfl) : PE X (.Attribute e f pos) (tProp C sp [] E0 ta) := by
  obtain ⟨⟨q, g, fd, hp, F, hb⟩, c⟩ := D
  exact pe_prop he c hp F hr hb .nil (fun _ _ _ _ _ _ _ h => h.elim) hab
end
end Sq

set_option Elab.async false
set_option linter.all false
set_option maxRecDepth 100000
set_option maxHeartbeats 2000000
/-! list(text); texts cut at ^ or at ", "; how long a shown list of numbers is. -/
namespace Sq
open PySem PySem.Spec PyProof.Rows L2
open NumText (digitsVal AllDigits)
def signsV (x : Str) : List V := (TL.tl x).map fun c => V.str ⟨#[c]⟩
def rListStr : List V → Hp → VK → Prop := fun xs H Q => ∃ x : Str, xs = [.str x] ∧ x.length ≤ sizeLine ∧ ∀ p, H p = none → Q (.ref p) (upd H p (.lst (signsV x)))
theorem vals_signs {x : Str} {acc : Array Value} (h : ItemsOf (SignAt x) acc x.cps.size) : Vals (signsV x) acc.toList := by
  obtain ⟨sz, items⟩ := h
  have key : ∀ (cs : List Nat) (vs : List Value), cs.length = vs.length → (∀ (j : Nat) (v : Value), vs[j]? = some v → ∃ c u, cs[j]? = some c ∧ v = Value.str ⟨#[c]⟩ u) → Vals (cs.map fun c => V.str ⟨#[c]⟩) vs := fun cs => by
    induction cs with
    | nil =>
      intro vs l _
      cases vs with
      | nil => exact .nil
      | cons v vs => cases l
    | cons c cs ih =>
      intro vs l it
      cases vs with
      | nil => cases l
      | cons v vs =>
        obtain ⟨c', u, e, rfl⟩ := it 0 v rfl
        cases e
        exact .cons ⟨u, rfl⟩ (ih vs (Nat.succ.inj l) fun j w e => it (j + 1) w e)
  refine key (TL.tl x) acc.toList ?_ fun j v e => ?_
  · show x.cps.toList.length = _
    rw [Array.length_toList, Array.length_toList, sz]
  · obtain ⟨c, u, e2, e3⟩ := items j v (by rw [← Array.getElem?_toList]; exact e)
    exact ⟨c, u, by show x.cps.toList[j]? = some c; rw [Array.getElem?_toList]; exact e2, e3⟩
theorem call_listStr {X : Cx} (hc : X.calm = true) : CallR X (.type "list") rListStr := by
  intro pins s σ H xs us Q I r h
  obtain ⟨x, rfl, hl, q⟩ := h
  obtain ⟨u, rfl, t, rfl⟩ := vals1 r
  refine PySem.call_list_str (I.ok.hd hc) x t (fun h' tk acc' c' keep got items => ?_) hl
  have free : H s.heap.objs.size = none := I.hok.fresh (Nat.le_refl _)
  have len : (signsV x).length ≤ sizeLine := by
    unfold signsV
    rw [List.length_map, ← TL.len_tl]
    exact hl
  refine ⟨.ref s.heap.objs.size, upd H s.heap.objs.size (.lst (signsV x)), ?_, rfl, q _ free⟩
  exact I.call (ch := []) (Un.laid keep (Nat.le_refl _) free) (I.hok.laid keep (Nat.le_refl _) ⟨len, acc'.toList, c', vals_signs items, by rw [Array.toArray_toList]; exact got⟩) I.bare (fun _ z => nomatch z)
end Sq

set_option Elab.async false
set_option linter.all false
set_option maxRecDepth 100000
set_option maxHeartbeats 2000000
/-! Texts cut at ^ or at ", "; how long a shown list of numbers is. -/
namespace Sq
open PySem PySem.Spec PyProof.Rows L2
open NumText (digitsVal AllDigits)
open TL (numL)
theorem spl_sum (S : List Nat) : ∀ (k : Nat) (acc l : List Nat), ((TL.spl S k acc l).map List.length).sum ≤ acc.length + l.length
  | k, acc, [] => by rw [TL.spl_nil]; simp
  | 0, acc, c :: r => by
    show (((if TL.pre S (c :: r) = true then acc :: TL.spl S (S.length - 1) [] r else TL.spl S 0 (acc ++ [c]) r)).map List.length).sum ≤ _
    split
    · have := spl_sum S (S.length - 1) [] r
      simp only [List.map_cons, List.sum_cons, List.length_cons, List.length_nil] at this ⊢
      omega
    · have := spl_sum S 0 (acc ++ [c]) r
      simp only [List.length_append, List.length_cons, List.length_nil] at this ⊢
      omega
  | k + 1, acc, c :: r => by
    show ((TL.spl S k acc r).map List.length).sum ≤ _
    have := spl_sum S k acc r
    simp only [List.length_cons]
    omega
theorem hat_split {l : List Nat} (h : 94 ∈ l) : ∃ a b, l = a ++ 94 :: b ∧ 94 ∉ a := by
  obtain ⟨a, b, e, n⟩ := List.eq_append_cons_of_mem h
  exact ⟨a, b, e, n⟩
theorem spl_hat {a b : List Nat} (h : 94 ∉ a) : TL.spl [94] 0 [] (a ++ 94 :: b) = a :: TL.spl [94] 0 [] b := by
  have := TL.spl_part1 (s := 94) (S := []) (p := a) (rest := b) (acc := []) h
  simpa using this
theorem par_hat {a b : List Nat} (h : 94 ∉ a) : TL.par [94] [] (a ++ 94 :: b) = some (a, b) := by
  have := TL.par_part1 (s := 94) (S := []) (p := a) (rest := b) (acc := []) h
  simpa using this
theorem spl_free {a : List Nat} (h : 94 ∉ a) : TL.spl [94] 0 [] a = [a] := by
  have := TL.spl_last1 (s := 94) (S := []) (p := a) (acc := []) h
  simpa using this
theorem par_free {a : List Nat} (h : 94 ∉ a) : TL.par [94] [] a = none := TL.par_none1 h
theorem ok_free {l : List Nat} (h : numOk l = true) : 94 ∉ l := fun z => by
  have := (numOk_iff.mp h).1 94 z
  omega
/-- a part, cut at every ^ -/
theorem rPart_spl (l : List Nat) : rPart l = match TL.spl [94] 0 [] l with
    | [a] => if numOk a = true then some (digitsVal a, 1) else none
    | [a, b] => if (numOk a && numOk b) = true then some (digitsVal a, digitsVal b) else none
    | _ => none := by
  unfold rPart
  by_cases h : 94 ∈ l
  · obtain ⟨a, b, rfl, n⟩ := hat_split h
    rw [par_hat n, spl_hat n]
    by_cases hb : 94 ∈ b
    · obtain ⟨b1, b2, rfl, n2⟩ := hat_split hb
      have bad : numOk (b1 ++ 94 :: b2) = false := by
        cases e : numOk (b1 ++ 94 :: b2) with
        | false => rfl
        | true => exact absurd hb (ok_free e)
      rw [spl_hat n2]
      show (if (numOk a && numOk (b1 ++ 94 :: b2)) = true then _ else none) = _
      rw [bad, Bool.and_false, if_neg (by decide)]
      have ne := spl_ne [94] 0 [] b2
      cases e : TL.spl [94] 0 [] b2 with
      | nil => exact absurd e ne
      | cons x y => rfl
    · rw [spl_free hb]
  · rw [par_free h, spl_free h]
theorem cut_last {α : Type} (xs : List V) : cutV xs (some (-1)) none = xs.getLast?.toList := by
  unfold cutV
  rcases List.eq_nil_or_concat xs with e | ⟨ys, z, e⟩
  · subst e
    rfl
  · rw [List.concat_eq_append] at e
    subst e
    rw [List.getLast?_concat]
    have e1 : HT.sIx (ys ++ [z]).length 0 (some (-1)) = ys.length := by
      rw [List.length_append]
      show HT.sIx (ys.length + 1) 0 (some (-1)) = ys.length
      unfold HT.sIx
      simp
      omega
    have e2 : HT.sIx (ys ++ [z]).length (ys ++ [z]).length none = (ys ++ [z]).length := HT.sIx_none ..
    rw [e1, e2, List.length_append]
    simp
theorem shown_all : ∀ (ks : List PyData), PyData.shownAll ks = ks.map PyData.shown
  | [] => rfl
  | d :: ds => by
    show d.shown :: PyData.shownAll ds = _
    rw [shown_all ds]
    rfl
theorem joinL_sum (S : List Nat) : ∀ (ps : List (List Nat)), (TL.joinL S ps).length ≤ (ps.map fun p => p.length + S.length).sum
  | [] => Nat.le_refl _
  | [p] => by
    show p.length ≤ _
    simp
  | p :: q :: r => by
    have := joinL_sum S (q :: r)
    show (p ++ (S ++ TL.joinL S (q :: r))).length ≤ _
    simp only [List.length_append, List.map_cons, List.sum_cons] at this ⊢
    omega
theorem shown_list_len (ds : List PyData) : (PyData.list ds).shown.length ≤ (ds.map fun d => d.shown.length + 2).sum + 2 := by
  rw [PyData.shown_list, shown_all, TL.len_tl, TL.tl_append, TL.tl_append, TL.tl_join, List.length_append, List.length_append]
  have h1 : (TL.tl ("[" : Str)).length = 1 := by decide +kernel
  have h2 : (TL.tl ("]" : Str)).length = 1 := by decide +kernel
  have h3 : (TL.tl (", " : Str)).length = 2 := by decide +kernel
  have a := joinL_sum (TL.tl (", " : Str)) ((ds.map PyData.shown).map TL.tl)
  rw [h3] at a
  have e : (((ds.map PyData.shown).map TL.tl).map fun p => p.length + 2) = ds.map fun d => d.shown.length + 2 := by
    rw [List.map_map, List.map_map]
    apply List.map_congr_left
    intro d _
    show (TL.tl d.shown).length + 2 = d.shown.length + 2
    rw [TL.len_tl]
  rw [e] at a
  rw [h1, h2]
  omega
theorem shown_nat (n : Nat) : (PyData.int (n : Int)).shown.length = (numL n).length := by
  show (Str.ofString (toString (n : Int))).length = _
  rw [TL.len_tl, TL.tl_num]
end Sq

set_option Elab.async false
set_option linter.all false
set_option maxRecDepth 100000
set_option maxHeartbeats 2000000
/-! Few equal numbers in a part, told by the pieces between the ^. -/
namespace Sq
open PySem PySem.Spec PyProof.Rows L2
open NumText (digitsVal AllDigits)
open TL (numL)
def isDig (c : Nat) : Bool := decide (48 ≤ c) && decide (c ≤ 57)
def dpre (q : List Nat) : List Nat := q.takeWhile isDig
theorem dpre_app {b v : List Nat} (hb : AllDigits b) (hv : v = [] ∨ ∃ c r, v = c :: r ∧ isDig c = false) : dpre (b ++ v) = b := by
  induction b with
  | nil =>
    rcases hv with e | ⟨c, r, e, h⟩
    · rw [e]; rfl
    · rw [e]
      show List.takeWhile isDig (c :: r) = []
      rw [List.takeWhile_cons, h]
      rfl
  | cons c b ih =>
    have hc := hb c List.mem_cons_self
    show List.takeWhile isDig (c :: (b ++ v)) = _
    rw [List.takeWhile_cons, show isDig c = true by unfold isDig; rw [decide_eq_true hc.1, decide_eq_true hc.2]; rfl, if_pos rfl]
    exact congrArg (c :: ·) (ih fun x hx => hb x (List.mem_cons_of_mem _ hx))
theorem spl_where (S : List Nat) : ∀ (n : Nat) (acc l p : List Nat), l.length ≤ n → p ∈ TL.spl (44 :: S) 0 acc l → ∃ u v, acc ++ l = u ++ p ++ v ∧ (v = [] ∨ ∃ r, v = 44 :: r)
  | _, acc, [], p, _, h => by
    rw [TL.spl_nil] at h
    rw [List.mem_singleton.mp h]
    exact ⟨[], [], by simp, .inl rfl⟩
  | 0, acc, c :: r, p, hn, h => by cases hn
  | n + 1, acc, c :: r, p, hn, h => by
    have h' : p ∈ (if TL.pre (44 :: S) (c :: r) = true then acc :: TL.spl (44 :: S) ((44 :: S).length - 1) [] r else TL.spl (44 :: S) 0 (acc ++ [c]) r) := h
    have hr : r.length ≤ n := Nat.le_of_succ_le_succ hn
    by_cases e : TL.pre (44 :: S) (c :: r) = true
    · rw [if_pos e] at h'
      have ec : c = 44 := by
        by_cases q : c = 44
        · exact q
        · rw [TL.pre_of_head S r q] at e
          cases e
      subst ec
      rcases List.mem_cons.mp h' with z | z
      · subst z
        exact ⟨[], 44 :: r, by simp, .inr ⟨r, rfl⟩⟩
      · rw [TL.spl_pass] at z
        obtain ⟨u, v, e1, e2⟩ := spl_where S n [] (r.drop ((44 :: S).length - 1)) p (by rw [List.length_drop]; omega) z
        refine ⟨acc ++ 44 :: (r.take ((44 :: S).length - 1) ++ u), v, ?_, e2⟩
        have : r.take ((44 :: S).length - 1) ++ (u ++ p ++ v) = r := by
          rw [List.nil_append] at e1
          rw [← e1, List.take_append_drop]
        rw [show acc ++ 44 :: (r.take ((44 :: S).length - 1) ++ u) ++ p ++ v = acc ++ 44 :: (r.take ((44 :: S).length - 1) ++ (u ++ p ++ v)) by simp only [List.append_assoc, List.cons_append], this]
    · rw [if_neg e] at h'
      obtain ⟨u, v, e1, e2⟩ := spl_where S n _ r p hr h'
      exact ⟨u, v, by rw [← e1]; simp, e2⟩
theorem spl_mid : ∀ (n : Nat) (u w : List Nat), u.length ≤ n → ∃ A, A ≠ [] ∧ TL.spl [94] 0 [] (u ++ 94 :: w) = A ++ TL.spl [94] 0 [] w
  | n, u, w, hn => by
    by_cases h : 94 ∈ u
    · obtain ⟨a, b, rfl, na⟩ := hat_split h
      cases n with
      | zero => simp at hn
      | succ n =>
        obtain ⟨A, _, e⟩ := spl_mid n b w (by simp at hn; omega)
        refine ⟨a :: A, by simp, ?_⟩
        rw [show a ++ 94 :: b ++ 94 :: w = a ++ 94 :: (b ++ 94 :: w) by simp, spl_hat na, e]
        rfl
    · exact ⟨[u], by simp, by rw [spl_hat h]; rfl⟩
theorem spl_first (w : List Nat) : ∃ q r, TL.spl [94] 0 [] w = q :: r ∧ ∃ z, w = q ++ z ∧ (z = [] ∨ ∃ y, z = 94 :: y) := by
  by_cases h : 94 ∈ w
  · obtain ⟨a, b, rfl, na⟩ := hat_split h
    exact ⟨a, _, spl_hat na, 94 :: b, rfl, .inr ⟨b, rfl⟩⟩
  · exact ⟨w, [], spl_free h, [], by simp, .inl rfl⟩
/-- the digits behind a ^ are few -/
def FewDig (l : List Nat) : Prop := ∀ q ∈ (TL.spl [94] 0 [] l).tail, (dpre q).length ≤ 3
theorem small_of {l : List Nat} (h : FewDig l) : Small l := fun p hp n k e => by
  unfold rPart at e
  cases hp2 : TL.par [94] [] p with
  | none =>
    rw [hp2] at e
    have e' : (if numOk p = true then some (digitsVal p, 1) else none) = some (n, k) := e
    by_cases c : numOk p = true
    · rw [if_pos c] at e'
      cases e'
      decide
    · rw [if_neg c] at e'
      cases e'
  | some ab =>
    obtain ⟨a, b⟩ := ab
    rw [hp2] at e
    have e' : (if (numOk a && numOk b) = true then some (digitsVal a, digitsVal b) else none) = some (n, k) := e
    by_cases c : (numOk a && numOk b) = true
    · rw [if_pos c] at e'
      cases e'
      rw [Bool.and_eq_true] at c
      have ep := par_some p [] a b hp2
      obtain ⟨u, v, el, ev⟩ := spl_where [32] _ [] l p (Nat.le_refl _) hp
      rw [List.nil_append] at ep el
      obtain ⟨A, nA, eA⟩ := spl_mid _ (u ++ a) (b ++ v) (Nat.le_refl _)
      obtain ⟨q, r, eq, z, ez, hz⟩ := spl_first (b ++ v)
      have el2 : l = (u ++ a) ++ 94 :: (b ++ v) := by rw [el, ep]; simp
      have mem : q ∈ (TL.spl [94] 0 [] l).tail := by
        rw [el2, eA, eq]
        cases A with
        | nil => exact absurd rfl nA
        | cons x y => simp
      have hb := (numOk_iff.mp c.2).1
      have hq : dpre q = b := by
        have nb : 94 ∉ b := ok_free c.2
        -- q begins with b
        rcases List.append_eq_append_iff.mp ez with ⟨as, e1, e2⟩ | ⟨bs, e1, e2⟩
        · -- q = b ++ as, v = as ++ z
          rw [e1]
          refine dpre_app hb ?_
          cases as with
          | nil => exact .inl rfl
          | cons x y =>
            rcases ev with e3 | ⟨r3, e3⟩
            · rw [e3] at e2; cases e2
            · rw [e3] at e2
              have : x = 44 := by injection e2 with h1 _; exact h1.symm
              exact .inr ⟨x, y, rfl, by rw [this]; rfl⟩
        · -- b = q ++ bs, z = bs ++ v
          cases bs with
          | nil =>
            rw [List.append_nil] at e1
            have := dpre_app (v := []) hb (.inl rfl)
            rw [List.append_nil] at this
            rw [← e1]
            exact this
          | cons x y =>
            exfalso
            rcases hz with e3 | ⟨r3, e3⟩
            · rw [e3] at e2; cases e2
            · rw [e3] at e2
              have : x = 94 := by injection e2 with h1 _; exact h1.symm
              exact nb (by rw [e1, this]; simp)
      have l3 := h q mem
      rw [hq] at l3
      have bd := numL_bound (digitsVal b)
      rw [(numOk_back c.2).1] at bd
      have := Nat.lt_of_lt_of_le bd (Nat.pow_le_pow_right (show 0 < 10 by decide) l3)
      omega
    · rw [if_neg c] at e'
      cases e'
theorem joinL_ge (S : List Nat) : ∀ (ps : List (List Nat)), (ps.map List.length).sum ≤ (TL.joinL S ps).length
  | [] => Nat.le_refl _
  | [p] => by
    show _ ≤ p.length
    simp
  | p :: q :: r => by
    have := joinL_ge S (q :: r)
    show _ ≤ (p ++ (S ++ TL.joinL S (q :: r))).length
    simp only [List.length_append, List.map_cons, List.sum_cons] at this ⊢
    omega
theorem numL_pL (n k : Nat) : (numL n).length ≤ (pL n k).length := by
  unfold pL
  rw [List.length_append]
  omega
theorem out_sum (f : Int → Nat) : ∀ (ps : List (Nat × Nat)), (∀ p ∈ ps, p.2 ≤ 1000) → ((outL ps).map f).sum ≤ 1000 * (ps.map fun p => f (p.1 : Int)).sum
  | [], _ => Nat.le_refl _
  | p :: r, h => by
    have a := out_sum f r fun x hx => h x (List.mem_cons_of_mem _ hx)
    have b := h p List.mem_cons_self
    rw [outL_cons, List.map_append, List.sum_append, List.map_replicate, List.sum_replicate_nat, List.map_cons, List.sum_cons]
    have := Nat.mul_le_mul_right (f (p.1 : Int)) b
    omega
/-- what is read of a text can be shown -/
theorem fit_read {l : List Nat} {ks : List Int} (h : rText l = some ks) (sm : Small l) (hl : l.length ≤ 4000) : (PyData.list (ks.map PyData.int)).shown.length ≤ 12100000 ∧ (∀ k ∈ ks, 2 ≤ k ∧ k < 10 ^ 200) ∧ ks.length ≤ 4100000 := by
  obtain ⟨ps, G, et, pr, lp, ksm⟩ := read_back h
  have k1 := ksm sm
  have e := G.out
  have tot : (ps.map fun p => (numL p.1).length + 2).sum ≤ 12002 := by
    have s1 : (ps.map fun p => (numL p.1).length).sum ≤ l.length := by
      rw [← et]
      unfold txtL
      split
      · rename_i z
        rw [z]
        exact Nat.zero_le _
      · refine Nat.le_trans ?_ (joinL_ge _ _)
        rw [List.map_map]
        have mono : ∀ (qs : List (Nat × Nat)), (qs.map fun p => (numL p.1).length).sum ≤ (qs.map (List.length ∘ fun p => pL p.1 p.2)).sum := fun qs => by
          induction qs with
          | nil => exact Nat.le_refl _
          | cons q r ih =>
            have := numL_pL q.1 q.2
            simp only [List.map_cons, List.sum_cons, Function.comp] at ih ⊢
            omega
        exact mono ps
    have s2 : ∀ (qs : List (Nat × Nat)), (qs.map fun p => (numL p.1).length + 2).sum = (qs.map fun p => (numL p.1).length).sum + 2 * qs.length := fun qs => by
      induction qs with
      | nil => rfl
      | cons q r ih =>
        simp only [List.map_cons, List.sum_cons, List.length_cons] at ih ⊢
        omega
    rw [s2]
    omega
  refine ⟨?_, fun k hk => ?_, ?_⟩
  · refine Nat.le_trans (shown_list_len _) ?_
    rw [List.map_map, ← e]
    have a := out_sum (fun k => (PyData.int k).shown.length + 2) ps k1
    have b : (ps.map fun p : Nat × Nat => (PyData.int (p.1 : Int)).shown.length + 2) = ps.map fun p => (numL p.1).length + 2 := List.map_congr_left fun p _ => by rw [shown_nat]
    have a := (show ((outL ps).map fun k => (PyData.int k).shown.length + 2).sum ≤ 1000 * (ps.map fun p : Nat × Nat => (PyData.int (p.1 : Int)).shown.length + 2).sum from a)
    rw [b] at a
    have : ((outL ps).map ((fun d : PyData => d.shown.length + 2) ∘ PyData.int)).sum ≤ 1000 * 12002 := Nat.le_trans a (Nat.mul_le_mul_left _ tot)
    omega
  · rw [← e] at hk
    unfold outL at hk
    obtain ⟨xs, h1, h2⟩ := List.mem_flatten.mp hk
    obtain ⟨p, hp, rfl⟩ := List.mem_map.mp h1
    rw [(List.mem_replicate.mp h2).2]
    have q := pr p hp
    have t := q.two
    have bd := pow10_le (numL_bound p.1) q.len
    have bd2 : ((p.1 : Nat) : Int) < ((10 ^ 200 : Nat) : Int) := Int.ofNat_lt.mpr bd
    refine ⟨by omega, ?_⟩
    rw [Int.natCast_pow] at bd2
    exact bd2
  · rw [← e]
    have a := out_sum (fun _ => 1) ps k1
    have c1 : ∀ (xs : List Int), (xs.map fun _ => 1).sum = xs.length := fun xs => by
      induction xs with
      | nil => rfl
      | cons x r ih =>
        rw [List.map_cons, List.sum_cons, ih, List.length_cons]
        omega
    have c2 : ∀ (xs : List (Nat × Nat)), (xs.map fun _ => 1).sum = xs.length := fun xs => by
      induction xs with
      | nil => rfl
      | cons x r ih =>
        rw [List.map_cons, List.sum_cons, ih, List.length_cons]
        omega
    rw [c1, c2] at a
    omega
end Sq

set_option Elab.async false
set_option linter.all false
/-! A statement told apart from what follows. -/
namespace Sq
open PySem PySem.Spec PyProof.Rows L2
theorem seqNx {t u : TS} {D : Ends} {r : VK} {b c : L2.St → Hp → Prop} {σ : L2.St} {H : Hp} (h : tSeq t u D σ H) : Ends.nx { nx := tSeq t u D, rt := r, bk := b, ct := c } σ H := h
theorem tellSeq {t u : TS} {D : Ends} {σ : L2.St} {H : Hp} (T : L2.St → Hp → Prop) (h : ∀ N : L2.St → Hp → Prop, (∀ σ2 H2, T σ2 H2 → N σ2 H2) → t { D with nx := N } σ H) (hT : ∀ σ2 H2, T σ2 H2 → u D σ2 H2) : tSeq t u D σ H := h (u D) hT
theorem tellNx {t u : TS} {D : Ends} {r : VK} {b c : L2.St → Hp → Prop} {σ : L2.St} {H : Hp} (T : L2.St → Hp → Prop) (h : ∀ N : L2.St → Hp → Prop, (∀ σ2 H2, T σ2 H2 → N σ2 H2) → t { D with nx := N } σ H) (hT : ∀ σ2 H2, T σ2 H2 → u D σ2 H2) : Ends.nx { nx := tSeq t u D, rt := r, bk := b, ct := c } σ H := h (u D) hT
end Sq
namespace Sq
open PySem PySem.Spec PyProof.Rows L2
/-- for .. in range(a if c else b) -/
theorem seq_for_if {c : TT} {a b : Int} {g : TG} {tb u : TS} {D : Ends} {σ : L2.St} {H : Hp} (k : Bool) (h : ∀ Q' : Bool → Hp → Prop, Q' k H → c σ H Q') (ba : -(2 ^ 62) ≤ a ∧ a < 2 ^ 62) (bb : -(2 ^ 62) ≤ b ∧ b < 2 ^ 62)
    (q : tFor (fun _ H R => R (Itr 0 (if k = true then a else b).toNat) H) g tb { D with nx := u D } σ H) : tSeq (tFor (iRng1 (tCons (tIf c (tC (.int a)) (tC (.int b))) tNil)) g tb) u D σ H := by
  cases k with
  | true => exact h _ ⟨a, rfl, ba.1, ba.2, q⟩
  | false => exact h _ ⟨b, rfl, bb.1, bb.2, q⟩
theorem atI_last2 {α : Type} (xs : List α) (v w : α) : atI (xs ++ [v, w]) (-2) = some v := by
  have hl : (xs ++ [v, w]).length = xs.length + 2 := by simp
  have e : ixN (xs ++ [v, w]).length (-2) = some xs.length := by
    unfold ixN
    rw [hl, if_neg (by decide), if_pos (by omega)]
    congr 1
    omega
  unfold atI
  rw [e]
  show (xs ++ [v, w])[xs.length]? = some v
  simp
theorem cut_take (xs : List V) (n : Nat) (h : n ≤ xs.length) : cutV xs none (some (n : Int)) = xs.take n := by
  unfold cutV
  rw [HT.sIx_nat, HT.sIx_none, List.drop_zero, Nat.min_eq_left h, Nat.sub_zero]
end Sq

set_option Elab.async false
set_option linter.all false
set_option maxHeartbeats 1000000
/-! Lists of replacements in the heap; slices of them. -/
namespace Sq
open PySem PySem.Spec PyProof.Rows L2
/-- replacements, not too great -/
def Rpl (ks : List Int) : Prop := ∀ k ∈ ks, 2 ≤ k ∧ k < 1073741824
theorem Rpl.low {ks : List Int} (h : Rpl ks) : lowAt ks = none := (lowAt_take ks ks.length (by rw [List.take_length]; exact fun k hk => (h k hk).1)).2 (Nat.le_refl _)
theorem Rpl.two {ks : List Int} (h : Rpl ks) : ∀ k ∈ ks, 2 ≤ k := fun k hk => (h k hk).1
theorem Rpl.app {ks ls : List Int} (h : Rpl ks) (g : Rpl ls) : Rpl (ks ++ ls) := fun k hk => by
  rcases List.mem_append.mp hk with z | z
  · exact h k z
  · exact g k z
/-- a list of at most n replacements -/
def RL (H : Hp) (p : Addr) (n : Nat) : Prop := ∃ ks : List Int, H p = some (.lst (ks.map V.int)) ∧ ks.length ≤ n ∧ Rpl ks
theorem RL.same {H H' : Hp} {p : Addr} {n : Nat} (h : RL H p n) (s : Same H H') : RL H' p n := by
  obtain ⟨ks, g, l, r⟩ := h
  exact ⟨ks, s _ _ g, l, r⟩
theorem RL.le {H : Hp} {p : Addr} {n m : Nat} (h : RL H p n) (l : n ≤ m) : RL H p m := by
  obtain ⟨ks, g, l', r⟩ := h
  exact ⟨ks, g, Nat.le_trans l' l, r⟩
theorem cut_part (ks : List Int) (lo hi : Option Int) : ∃ ls : List Int, cutV (ks.map V.int) lo hi = ls.map V.int ∧ ls.length ≤ ks.length ∧ ∀ x ∈ ls, x ∈ ks := by
  refine ⟨(ks.drop (HT.sIx (ks.map V.int).length 0 lo)).take (HT.sIx (ks.map V.int).length (ks.map V.int).length hi - HT.sIx (ks.map V.int).length 0 lo), ?_, ?_, fun x hx => List.mem_of_mem_drop (List.mem_of_mem_take hx)⟩
  · unfold cutV
    rw [List.map_take, List.map_drop]
  · rw [List.length_take, List.length_drop]
    omega
theorem cut_first (ks : List Int) (n : Nat) (h : n ≤ 1000) : ∃ ls : List Int, cutV (ks.map V.int) none (some (n : Int)) = ls.map V.int ∧ ls.length ≤ n ∧ ∀ x ∈ ls, x ∈ ks := by
  by_cases c : n ≤ (ks.map V.int).length
  · refine ⟨ks.take n, ?_, ?_, fun x hx => List.mem_of_mem_take hx⟩
    · rw [cut_take _ n c, List.map_take]
    · rw [List.length_take]
      omega
  · obtain ⟨ls, a, b, d⟩ := cut_part ks none (some (n : Int))
    rw [List.length_map] at c
    exact ⟨ls, a, by omega, d⟩
/-- a slice, and a sum of two, as such lists -/
theorem rl_cut {H : Hp} {ks : List Int} {lo hi : Option Int} {p : Addr} {n : Nat} (l : ks.length ≤ n) (r : Rpl ks) : RL (upd H p (.lst (cutV (ks.map V.int) lo hi))) p n := by
  obtain ⟨ls, a, b, d⟩ := cut_part ks lo hi
  exact ⟨ls, by rw [a]; exact upd_same, Nat.le_trans b l, fun k hk => r k (d k hk)⟩
theorem cat_rl {H : Hp} {p q : Addr} {n m : Nat} {Q : VK} (hp : RL H p n) (hq : RL H q m) (hn : n + m ≤ 1000) (k : ∀ r H', H r = none → Same H H' → RL H' r (n + m) → Q (.ref r) H') : rCat (.ref p) (.ref q) H Q := by
  obtain ⟨ks, g1, l1, r1⟩ := hp
  obtain ⟨ls, g2, l2, r2⟩ := hq
  refine ⟨p, q, _, _, rfl, rfl, g1, g2, Nat.le_of_lt (small1000 (by rw [List.length_map, List.length_map]; omega)), fun r hr => k r _ hr (same_new hr) ⟨ks ++ ls, ?_, by rw [List.length_append]; omega, r1.app r2⟩⟩
  rw [upd_same, List.map_append]
theorem slice_rl {K : PySem.W.Frag} {H : Hp} {a : Addr} {n : Nat} {lo hi : Option Int} {Q : VK} (ha : RL H a n) (k : ∀ r H', H r = none → Same H H' → RL H' r n → Q (.ref r) H') : rSlL K (.ref a) lo hi H Q := by
  obtain ⟨ks, g, l, r⟩ := ha
  exact ⟨a, _, rfl, SqL.of g, fun p hp => k p _ hp (same_new hp) (rl_cut l r)⟩
theorem slice12_rl {K : PySem.W.Frag} {H : Hp} {a : Addr} {n : Nat} {Q : VK} (m : Nat) (hm : m ≤ 1000) (ha : RL H a n) (k : ∀ r H', H r = none → Same H H' → RL H' r m → Q (.ref r) H') : rSlL K (.ref a) none (some (m : Int)) H Q := by
  obtain ⟨ks, g, l, r⟩ := ha
  obtain ⟨ls, a', b, d⟩ := cut_first ks m hm
  exact ⟨a, _, rfl, SqL.of g, fun p hp => k p _ hp (same_new hp) ⟨ls, by rw [a']; exact upd_same, b, fun x hx => r x (d x hx)⟩⟩
theorem one_rl {H : Hp} {t : Addr} {k : Int} (h1 : 2 ≤ k) (h2 : k < 1073741824) : RL (upd H t (.lst [.int k])) t 1 := ⟨[k], upd_same, Nat.le_refl _, fun x hx => by rw [List.mem_singleton.mp hx]; exact ⟨h1, h2⟩⟩
theorem rev_rl {H : Hp} {p : Addr} {ms : List Int} {n : Nat} (l : ms.length ≤ n) (r : Rpl ms) : RL (upd H p (.lst (ms.map V.int).reverse)) p n :=
  ⟨ms.reverse, by rw [upd_same, List.map_reverse], by rw [List.length_reverse]; exact l, fun x hx => r x (List.mem_reverse.mp hx)⟩
theorem noPart {σ : L2.St} {H : Hp} {Q : Option Int → Hp → Prop} (h : Q none H) : tNoPart σ H Q := h
theorem wo_mon {G H : Hp} {D : Addr} (s : Same G H) : Same (wo G D) (wo H D) := fun b o e => by
  by_cases h : b = D
  · rw [h, wo_self] at e
    cases e
  · rw [wo_ne h] at e ⊢
    exact s b o e
end Sq

set_option Elab.async false
set_option linter.all false
set_option maxRecDepth 100000
set_option maxHeartbeats 2000000
/-! A def of the law that asks for a repr: run where no repr is under way. -/
namespace Sq
open PySem PySem.Spec PyProof.Rows L2
structure FnG (P : Program) (w : World) (K : PySem.W.Frag) (mg : Str → Option Value) (base : Heap) (k : Nat) (f : Addr) (fd : FuncData) (ps : List Str) (sp : Sp) : Prop where
  count : ∀ vs H Q E, sp vs H Q E → vs.length = ps.length
  go : ∀ (A : Around) (outer : List Env) (s : Shared) (H : Hp) (ag : Args) (us : List Value) (vs : List V) (Q : VK) (E : XK), Room k A → A.guards = some [] → Env0 P w K mg base A outer s H →
    BindsTo s fd ag (ps.zip us) → Vals vs us → sp vs H Q E → codeAny (model P w) A (.call (.ref f) ag) (CR CX0 outer P w H s Q E) s
theorem okG {P : Program} {w : World} {K : PySem.W.Frag} {mg : Str → Option Value} {base : Heap} {x qual : Str} {st : Stmt} {f : Addr} {fd : FuncData} {N ps : List Str} {k : Nat} {sp : Sp}
    (F : Fun K x qual st f fd) (S : FnScope N ps (defScope st)) (count : ∀ vs H Q E, sp vs H Q E → vs.length = ps.length)
    (inner : ∀ (cdv : Value) (A : Around) (outer : List Env) (s : Shared) (H : Hp) (vs : List V) (Q : VK) (E : XK), Room k (A.deeper (envOfC qual (defScope st) s.heap.objs.size f cdv)) → A.guards = some [] → sp vs H Q E →
      ∃ t, PSs (cxOf CX0 P w K mg base N qual (defScope st) f cdv A outer s H E).nox (defBody st) t ∧ t { nx := fun _ H' => Q .non H', rt := Q } (start N vs) H) : FnG P w K mg base (k + 1) f fd ps sp := by
  refine ⟨count, fun A outer s H ag us vs Q E room quiet entry bound rel wish => ?_⟩
  obtain ⟨oc, od, kV, doc, pm, an, cdv, ct, osl, rfl, lk, hcd⟩ := F.ex
  refine fnAt lk hcd S count (fun outer' s' H' vs' Q' E' room' wish' => ?_) room entry bound rel wish
  obtain ⟨t, h, q⟩ := inner cdv A outer' s' H' vs' Q' E' room' quiet wish'
  exact ⟨t, h.nox, q⟩
structure Dg (P : Program) (w : World) (K : PySem.W.Frag) (mg : Str → Option Value) (base : Heap) (k : Nat) (x : Str) (ps : List Str) (sp : Sp) : Prop where
  ex : ∃ f fd, FnG P w K mg base k f fd ps sp ∧ mg x = some (.ref f) ∧ PySem.W.keepIn K (.ref f) = true ∧ Binds K fd ps []
theorem Dg.mk' {P : Program} {w : World} {K : PySem.W.Frag} {mg : Str → Option Value} {base : Heap} {k : Nat} {x : Str} {st : Stmt} {ps : List Str} {sp : Sp} {f : Addr} {fd : FuncData} (F : Fun K x x st f fd) (G : FnG P w K mg base k f fd ps sp) (g : mg x = some (.ref f)) (b : Binds K fd ps []) : Dg P w K mg base k x ps sp :=
  ⟨⟨f, fd, G, g, F.kp, b⟩⟩
section
variable {X : Cx} {k : Nat} {ps : List Str} {sp : Sp} {x : Str} {p pos : Pos} {e : Expr} {es : List Expr} {t : TA}
theorem pe_callG (D : Dg X.prog X.w X.K X.mg X.base k x ps sp) (room : Room k X.A) (quiet : X.A.guards = some []) (hg : Gl X x) (ha : PA X (e :: es) t) (hdb : (x == ("__debug__" : Str)) = false := by decide)
    (first : starEach (e :: es) X.env = (false, eval e X.env) :: starEach es X.env := by rfl)
    (nostar : (backTo pos (starEach es X.env)).any (·.1) = false := by rfl) :
    PE X (.Call (.Name x p) (e :: es) [] pos) (tCall sp [] E0 t) := by
  obtain ⟨f, fd, G, g, kp, b⟩ := D.ex
  constructor
  intro pins s σ H Q I h
  apply wpAny_Call_Name_kw
  apply ld_glob I hg g _ hdb
  apply PySem.W.callWith_K (h₀ := X.base) I.ok.mod.kin kp _ first nostar
  refine thn (ha.run pos pins s σ H _ I h) fun us s1 got => ?_
  obtain ⟨vs, H1, I1, r, q⟩ := got
  refine ⟨I1.kIn, ?_⟩
  rw [List.append_nil] at q
  have hl : (us ++ []).length = ps.length := by
    rw [List.append_nil, ← r.length]
    exact G.count _ _ _ _ q
  have bb := b s1 us I1.kIn hl
  rw [List.append_nil] at bb
  apply wpAny_call
  refine codeAny_mono (G.go X.A X.stack s1 H1 ⟨us, []⟩ us vs Q E0 room quiet I1.env0 bb r q) fun out s' hq => ?_
  cases out with
  | ok fl =>
    cases fl with
    | ret u => exact I1.after hq
    | next => exact hq.elim
    | brk => exact hq.elim
    | cont => exact hq.elim
  | error u => exact pass0 pins σ H1 s1 u s' I1 hq
end
end Sq

set_option Elab.async false
set_option linter.all false
/-! The best replacements, in plain Lean. -/
namespace Sq
def low (R : Int) : Int := (R + 3) / 2
def high (R : Int) : Int := (R + 4) / 2
def bests (R : Int) : List Int := if low R = high R then [low R] else [low R, high R]
def grow (R : Int) : Int := rw1 (low R) R
def up : Nat → Int → Int
  | 0, v => v
  | n + 1, v => grow (up n v)

theorem low_ge {R : Int} (h : 1 ≤ R) : 2 ≤ low R := by unfold low; omega
theorem low_le {R : Int} (h : 1 ≤ R) : low R ≤ R + 1 := by unfold low; omega
theorem high_le {R : Int} (h : 1 ≤ R) : high R ≤ R + 2 := by unfold high; omega

theorem rw1_low {k R : Int} (hk : k ≤ R + 2) : rw1 k R = (R + 3 - k) * k - 2 := by
  unfold rw1
  split
  · have e : k = R + 2 := by omega
    subst e
    rw [show R + 3 - (R + 2) = 1 by omega, Int.one_mul]
    omega
  · rfl

/-- how far a replacement stands from the middle decides -/
theorem sq_gap (R k : Int) : 4 * ((R + 3 - k) * k) = (R + 3) * (R + 3) - (2 * k - (R + 3)) * (2 * k - (R + 3)) := by
  simp only [Int.sub_mul, Int.mul_sub, Int.add_mul, Int.mul_add]
  have h1 := Int.mul_comm k R
  have h2 : 2 * k * (2 * k) = 4 * (k * k) := by
    rw [Int.mul_assoc, ← Int.mul_assoc k 2 k, Int.mul_comm k 2, Int.mul_assoc 2 k k]
    omega
  have h3 : 2 * k * R = 2 * (k * R) := Int.mul_assoc ..
  have h4 : R * (2 * k) = 2 * (k * R) := by rw [Int.mul_comm R, Int.mul_assoc]
  rw [h2, h3, h4, h1]
  omega

theorem one_sq {d : Int} (h : d = 0 ∨ d = 1 ∨ d = -1) : d * d ≤ 1 := by rcases h with h | h | h <;> subst h <;> decide
theorem two_sq {d : Int} (h : 2 ≤ d ∨ d ≤ -2) : 4 ≤ d * d := by
  rcases h with h | h
  · exact Int.mul_le_mul h h (by omega) (by omega)
  · have := Int.mul_le_mul (a := 2) (b := 2) (c := -d) (d := -d) (by omega) (by omega) (by omega) (by omega)
    rw [Int.neg_mul_neg] at this
    exact this

theorem rw1_le_grow {k R : Int} (hk : 2 ≤ k) (hR : 1 ≤ R) : rw1 k R ≤ grow R ∧ (rw1 k R = grow R ↔ k ∈ bests R) := by
  have l1 := low_ge hR
  have l2 := low_le hR
  have g : grow R = (R + 3 - low R) * low R - 2 := rw1_low (by omega)
  have e1 := sq_gap R (low R)
  by_cases c : k ≤ R + 2
  · have e := sq_gap R k
    rw [g, rw1_low c]
    by_cases ev : R % 2 = 0
    · -- the middle lies between two
      have d1 : 2 * low R - (R + 3) = -1 := by unfold low; omega
      have ne : low R ≠ high R := by unfold low high; omega
      have mem : k ∈ bests R ↔ (k = low R ∨ k = high R) := by
        unfold bests
        rw [if_neg ne]
        simp
      rw [d1] at e1
      by_cases m : k = low R ∨ k = high R
      · have d2 : 2 * k - (R + 3) = -1 ∨ 2 * k - (R + 3) = 1 := by unfold low high at m; omega
        have e2 : (2 * k - (R + 3)) * (2 * k - (R + 3)) = 1 := by rcases d2 with d2 | d2 <;> rw [d2] <;> rfl
        rw [e2] at e
        exact ⟨by omega, fun _ => mem.mpr m, fun _ => by omega⟩
      · have d2 : 2 ≤ 2 * k - (R + 3) ∨ 2 * k - (R + 3) ≤ -2 := by unfold low high at m; omega
        have e2 := two_sq d2
        exact ⟨by omega, fun z => by omega, fun z => absurd (mem.mp z) m⟩
    · have d1 : 2 * low R - (R + 3) = 0 := by unfold low; omega
      have eq : low R = high R := by unfold low high; omega
      have mem : k ∈ bests R ↔ k = low R := by
        unfold bests
        rw [if_pos eq]
        simp
      rw [d1] at e1
      by_cases m : k = low R
      · subst m
        exact ⟨by omega, fun _ => mem.mpr rfl, fun _ => by omega⟩
      · have d2 : 2 ≤ 2 * k - (R + 3) ∨ 2 * k - (R + 3) ≤ -2 := by unfold low at m; omega
        have e2 := two_sq d2
        exact ⟨by omega, fun z => by omega, fun z => absurd (mem.mp z) m⟩
  · have e2 : rw1 k R = R := by
      unfold rw1
      rw [if_pos (by omega)]
    have e3 : R < grow R := by
      rw [g]
      have e4 : (R + 3 - 2) * 2 ≤ (R + 3 - low R) * low R := by
        have a := sq_gap R 2
        have b : (2 * low R - (R + 3)) * (2 * low R - (R + 3)) ≤ 1 := one_sq (by unfold low; omega)
        by_cases h1 : R = 1
        · subst h1
          decide
        · by_cases h2 : R = 2
          · subst h2; decide
          · have c2 : 1 ≤ (2 * 2 - (R + 3)) * (2 * 2 - (R + 3)) := by
              have := two_sq (d := 2 * 2 - (R + 3)) (by omega)
              omega
            omega
      omega
    refine ⟨by omega, fun z => by omega, fun z => ?_⟩
    exfalso
    have := high_le hR
    unfold bests at z
    split at z
    · have := List.mem_singleton.mp z
      omega
    · simp at z
      omega

theorem grow_gt {R : Int} (hR : 1 ≤ R) : R < grow R := by
  have a := (rw1_le_grow (k := 2) (R := R) (by omega) hR).1
  rw [rw1_low (by omega)] at a
  by_cases h : R = 1
  · subst h; decide
  · omega
theorem grow_pos {R : Int} (hR : 1 ≤ R) : 1 ≤ grow R := by have := grow_gt hR; omega
theorem rw1_lt {k R S : Int} (hk : 2 ≤ k) (hR : 1 ≤ R) (h : R < S) : rw1 k R < grow S := by
  have hS : 1 ≤ S := by omega
  by_cases c : k ≤ R + 1
  · have a := (rw1_le_grow (k := k) hk hS).1
    rw [rw1_low (by omega)] at a
    rw [rw1_low (by omega)]
    have : (R + 3 - k) * k < (S + 3 - k) * k := Int.mul_lt_mul_of_pos_right (by omega) (by omega)
    omega
  · have e2 : rw1 k R = R := by
      unfold rw1
      rw [if_pos (by omega)]
    have := grow_gt hS
    omega
theorem grow_lt {R S : Int} (hR : 1 ≤ R) (h : R < S) : grow R < grow S := rw1_lt (low_ge hR) hR h
theorem up_pos {v : Int} (hv : 1 ≤ v) : ∀ n, 1 ≤ up n v
  | 0 => hv
  | n + 1 => grow_pos (up_pos hv n)
theorem up_lt {v : Int} (hv : 1 ≤ v) (n : Nat) : up n v < up (n + 1) v := grow_gt (up_pos hv n)
theorem up_mono {v : Int} (hv : 1 ≤ v) {i : Nat} : ∀ {j : Nat}, i ≤ j → up i v ≤ up j v
  | 0, h => by
    have e : i = 0 := by omega
    subst e
    exact Int.le_refl _
  | j + 1, h => by
    by_cases c : i = j + 1
    · subst c; exact Int.le_refl _
    · have := up_mono hv (i := i) (j := j) (by omega)
      have := up_lt hv j
      omega

/-- the choices of each place -/
def chs : Nat → Int → List (List Int)
  | 0, _ => []
  | n + 1, v => bests (up n v) :: chs n v
/-- one of each -/
def Each : List Int → List (List Int) → Prop
  | [], [] => True
  | k :: ks, c :: cs => k ∈ c ∧ Each ks cs
  | _, _ => False
theorem rch_best : ∀ (ks : List Int) (v : Int), (∀ k ∈ ks, 2 ≤ k) → 1 ≤ v → rch ks v ≤ up ks.length v ∧ (rch ks v = up ks.length v ↔ Each ks (chs ks.length v))
  | [], v, _, _ => ⟨Int.le_refl _, fun _ => trivial, fun _ => rfl⟩
  | k :: ks, v, h, hv => by
    have hk := h k (List.mem_cons_self ..)
    have ht : ∀ x ∈ ks, 2 ≤ x := fun x hx => h x (List.mem_cons_of_mem _ hx)
    obtain ⟨a1, a2⟩ := rch_best ks v ht hv
    have p := rch_pos ks v ht hv
    show rw1 k (rch ks v) ≤ grow (up ks.length v) ∧ (rw1 k (rch ks v) = grow (up ks.length v) ↔ k ∈ bests (up ks.length v) ∧ Each ks (chs ks.length v))
    by_cases e : rch ks v = up ks.length v
    · rw [e]
      obtain ⟨b1, b2⟩ := rw1_le_grow (k := k) (R := up ks.length v) hk (up_pos hv _)
      exact ⟨b1, fun z => ⟨b2.mp z, a2.mp e⟩, fun z => b2.mpr z.1⟩
    · have l := rw1_lt (k := k) hk p (show rch ks v < up ks.length v by omega)
      exact ⟨by omega, fun z => by omega, fun z => absurd (a2.mpr z.2) e⟩
end Sq

set_option Elab.async false
set_option linter.all false
/-! One of each choice, by its place. -/
namespace Sq
def lens : List (List Int) → Int
  | [] => 1
  | c :: cs => (c.length : Int) * lens cs
def pick : List (List Int) → Int → List Int
  | [], _ => []
  | c :: cs, p => c.getD ((p / lens cs) % (c.length : Int)).toNat 0 :: pick cs p
def Full (cs : List (List Int)) : Prop := ∀ c ∈ cs, 0 < c.length
theorem Full.tl {c : List Int} {cs : List (List Int)} (h : Full (c :: cs)) : Full cs := fun x hx => h x (List.mem_cons_of_mem _ hx)
theorem Full.hd {c : List Int} {cs : List (List Int)} (h : Full (c :: cs)) : 0 < c.length := h c (List.mem_cons_self ..)
theorem lens_pos : ∀ {cs : List (List Int)}, Full cs → 0 < lens cs
  | [], _ => by decide
  | c :: cs, h => Int.mul_pos (by have := h.hd; omega) (lens_pos h.tl)
theorem pick_len : ∀ (cs : List (List Int)) (p : Int), (pick cs p).length = cs.length
  | [], _ => rfl
  | _ :: cs, p => congrArg Nat.succ (pick_len cs p)
theorem pick_add : ∀ {cs : List (List Int)} (p t : Int), Full cs → pick cs (p + t * lens cs) = pick cs p
  | [], _, _, _ => rfl
  | c :: cs, p, t, h => by
    have m := lens_pos h.tl
    have e : p + t * ((c.length : Int) * lens cs) = p + (t * (c.length : Int)) * lens cs := by rw [Int.mul_assoc]
    show c.getD (((p + t * ((c.length : Int) * lens cs)) / lens cs) % (c.length : Int)).toNat 0 :: pick cs (p + t * ((c.length : Int) * lens cs)) = c.getD ((p / lens cs) % (c.length : Int)).toNat 0 :: pick cs p
    rw [e, pick_add p _ h.tl, Int.add_mul_ediv_right _ _ (by omega : lens cs ≠ 0), Int.add_mul_emod_self_right]
theorem pick_mod {cs : List (List Int)} (p : Int) (h : Full cs) : pick cs (p % lens cs) = pick cs p := by
  have a := pick_add (p % lens cs) (p / lens cs) h
  have e : p % lens cs + p / lens cs * lens cs = p := by rw [Int.mul_comm]; exact Int.emod_add_mul_ediv p (lens cs)
  rw [e] at a
  exact a.symm
theorem at_mem {c : List Int} (h : 0 < c.length) (z : Int) : c.getD (z % (c.length : Int)).toNat 0 ∈ c := by
  have a := Int.emod_nonneg z (by omega : (c.length : Int) ≠ 0)
  have b := Int.emod_lt_of_pos z (by omega : 0 < (c.length : Int))
  have lt : (z % (c.length : Int)).toNat < c.length := by omega
  rw [List.getD_eq_getElem?_getD, List.getElem?_eq_getElem lt]
  exact List.getElem_mem lt
theorem pick_each : ∀ {cs : List (List Int)} (p : Int), Full cs → Each (pick cs p) cs
  | [], _, _ => trivial
  | c :: cs, p, h => ⟨at_mem h.hd _, pick_each p h.tl⟩
theorem div_lt {p a M : Int} (h0 : 0 ≤ p) (hM : 0 < M) (h : p < a * M) : 0 ≤ p / M ∧ p / M < a := ⟨Int.ediv_nonneg h0 (by omega), Int.ediv_lt_of_lt_mul hM h⟩
theorem pick_all : ∀ {cs : List (List Int)} {ks : List Int}, Full cs → Each ks cs → ∃ p : Int, 0 ≤ p ∧ p < lens cs ∧ pick cs p = ks
  | [], [], _, _ => ⟨0, by decide, by decide, rfl⟩
  | c :: cs, k :: ks, h, e => by
    obtain ⟨p, p0, p1, pe⟩ := pick_all (cs := cs) (ks := ks) h.tl e.2
    obtain ⟨i, hi, ek⟩ := List.mem_iff_getElem.mp e.1
    have m := lens_pos h.tl
    refine ⟨p + i * lens cs, ?_, ?_, ?_⟩
    · have := Int.mul_nonneg (by omega : (0 : Int) ≤ i) (by omega : 0 ≤ lens cs)
      omega
    · have : ((i : Int) + 1) * lens cs ≤ (c.length : Int) * lens cs := Int.mul_le_mul_of_nonneg_right (by omega) (by omega)
      rw [Int.add_mul] at this
      show p + i * lens cs < (c.length : Int) * lens cs
      omega
    · show c.getD (((p + i * lens cs) / lens cs) % (c.length : Int)).toNat 0 :: pick cs (p + i * lens cs) = k :: ks
      rw [pick_add p _ h.tl, pe, Int.add_mul_ediv_right _ _ (by omega : lens cs ≠ 0), Int.ediv_eq_zero_of_lt p0 p1, Int.zero_add, Int.emod_eq_of_lt (by omega) (by omega)]
      have : ((i : Int)).toNat = i := by omega
      rw [this, List.getD_eq_getElem?_getD, List.getElem?_eq_getElem hi]
      exact congrArg (· :: ks) ek
  | [], _ :: _, _, e => e.elim
  | _ :: _, [], _, e => e.elim
/-- the first that differs is less -/
def Lx : List Int → List Int → Prop
  | x :: xs, y :: ys => x < y ∨ (x = y ∧ Lx xs ys)
  | _, _ => False
def Asc (c : List Int) : Prop := ∀ i j : Nat, i < j → j < c.length → c.getD i 0 < c.getD j 0
theorem pick_lx : ∀ {cs : List (List Int)} {p q : Int}, Full cs → (∀ c ∈ cs, Asc c) → 0 ≤ p → p < q → q < lens cs → Lx (pick cs p) (pick cs q)
  | [], p, q, _, _, h0, h1, h2 => by
    have : q < 1 := h2
    omega
  | c :: cs, p, q, h, ha, h0, h1, h2 => by
    have m := lens_pos h.tl
    have h2' : q < (c.length : Int) * lens cs := h2
    obtain ⟨a1, a2⟩ := div_lt h0 m (by omega : p < (c.length : Int) * lens cs)
    obtain ⟨b1, b2⟩ := div_lt (by omega : 0 ≤ q) m h2'
    have le : p / lens cs ≤ q / lens cs := Int.ediv_le_ediv m (by omega)
    show _ < _ ∨ (_ = _ ∧ Lx (pick cs p) (pick cs q))
    rw [Int.emod_eq_of_lt a1 a2, Int.emod_eq_of_lt b1 b2]
    by_cases e : p / lens cs = q / lens cs
    · right
      refine ⟨by rw [e], ?_⟩
      rw [← pick_mod p h.tl, ← pick_mod q h.tl]
      have x := Int.emod_add_mul_ediv p (lens cs)
      have y := Int.emod_add_mul_ediv q (lens cs)
      rw [e] at x
      exact pick_lx h.tl (fun z hz => ha z (List.mem_cons_of_mem _ hz)) (Int.emod_nonneg _ (by omega)) (by omega) (Int.emod_lt_of_pos _ m)
    · left
      exact ha c (List.mem_cons_self ..) _ _ (by omega) (by omega)
theorem bests_len (R : Int) : (bests R).length = if R % 2 = 0 then 2 else 1 := by
  unfold bests
  by_cases h : R % 2 = 0
  · rw [if_pos h, if_neg (show ¬ low R = high R by unfold low high; omega)]
    rfl
  · rw [if_neg h, if_pos (show low R = high R by unfold low high; omega)]
    rfl
theorem bests_asc (R : Int) : Asc (bests R) := by
  intro i j h1 h2
  rw [bests_len] at h2
  split at h2
  · have e1 : i = 0 := by omega
    have e2 : j = 1 := by omega
    subst e1 e2
    unfold bests
    rw [if_neg (show ¬ low R = high R by unfold low high; omega)]
    show low R < high R
    unfold low high
    omega
  · omega
theorem chs_len : ∀ (n : Nat) (v : Int), (chs n v).length = n
  | 0, _ => rfl
  | n + 1, v => congrArg Nat.succ (chs_len n v)
theorem chs_mem : ∀ {n : Nat} {v : Int} {c : List Int}, c ∈ chs n v → ∃ i, i < n ∧ c = bests (up i v)
  | n + 1, v, c, h => by
    rcases List.mem_cons.mp h with e | h
    · exact ⟨n, by omega, e⟩
    · obtain ⟨i, hi, e⟩ := chs_mem h
      exact ⟨i, by omega, e⟩
theorem chs_full (n : Nat) (v : Int) : Full (chs n v) := fun c h => by
  obtain ⟨i, _, rfl⟩ := chs_mem h
  rw [bests_len]
  split <;> omega
theorem chs_asc (n : Nat) (v : Int) : ∀ c ∈ chs n v, Asc c := fun c h => by
  obtain ⟨i, _, rfl⟩ := chs_mem h
  exact bests_asc _
/-- the even reaches -/
def evens (n : Nat) (v : Int) : Nat := match n with
  | 0 => 0
  | n + 1 => evens n v + if up n v % 2 = 0 then 1 else 0
theorem lens_chs : ∀ (n : Nat) (v : Int), lens (chs n v) = (2 : Int) ^ evens n v
  | 0, _ => rfl
  | n + 1, v => by
    show ((bests (up n v)).length : Int) * lens (chs n v) = (2 : Int) ^ (evens n v + if up n v % 2 = 0 then 1 else 0)
    rw [lens_chs n v, bests_len]
    by_cases h : up n v % 2 = 0
    · rw [if_pos h, if_pos h, Int.pow_succ]
      omega
    · rw [if_neg h, if_neg h]
      show (1 : Int) * _ = _
      rw [Int.one_mul]
      rfl
theorem evens_le (n : Nat) (v : Int) : evens n v ≤ n := by
  induction n with
  | zero => exact Nat.le_refl _
  | succ n ih =>
    show evens n v + (if up n v % 2 = 0 then 1 else 0) ≤ n + 1
    split <;> omega
theorem lens_le {n : Nat} (h : n ≤ 8) (v : Int) : lens (chs n v) ≤ 256 := by
  rw [lens_chs]
  have : (2 : Nat) ^ evens n v ≤ 2 ^ 8 := Nat.pow_le_pow_right (by decide) (Nat.le_trans (evens_le n v) h)
  have e : ((2 ^ evens n v : Nat) : Int) = (2 : Int) ^ evens n v := by push_cast; rfl
  omega
theorem each_ge : ∀ {n : Nat} {v : Int} {ks : List Int}, 1 ≤ v → Each ks (chs n v) → ∀ k ∈ ks, 2 ≤ k ∧ k ≤ up n v + 2
  | 0, v, [], _, _ => fun k h => by cases h
  | n + 1, v, k :: ks, hv, e => fun x hx => by
    have l := up_lt hv n
    rcases List.mem_cons.mp hx with z | z
    · subst z
      have p := up_pos hv n
      have e1 : x ∈ bests (up n v) := e.1
      have a := low_ge p
      have b := low_le p
      have c := high_le p
      have d : low (up n v) ≤ high (up n v) := by unfold low high; omega
      unfold bests at e1
      split at e1
      · have := List.mem_singleton.mp e1
        omega
      · simp at e1
        omega
    · have := each_ge hv e.2 x z
      omega
  | n + 1, v, [], _, e => e.elim
  | 0, v, _ :: _, _, e => e.elim
theorem each_len : ∀ {ks : List Int} {cs : List (List Int)}, Each ks cs → ks.length = cs.length
  | [], [], _ => rfl
  | _ :: _, _ :: _, e => congrArg Nat.succ (each_len e.2)
  | [], _ :: _, e => e.elim
  | _ :: _, [], e => e.elim
end Sq

set_option Elab.async false
set_option linter.all false
set_option maxRecDepth 100000
set_option maxHeartbeats 1000000
/-! `for` in a generator's body, with yields in its suite. -/
namespace PySem
open Sem (wp)
section
variable {M : Model} {A : Around} {R : GenEnd} {Y : Protocol} {n : Nat} {s₀ : Shared} {c : Code} {fs : List Frame} {s : Shared} {env : Env}
  {K : Flow → Sem Fin} {H : Value → Sem Fin} {gd : Bool → Bool} {lv : List Value → List Value}
theorem segFor {target iter : Expr} {body orelse : List Stmt} {pos : Pos}
    (h : wpAny M (A.over c fs) (eval iter env) (fun x s₁ => wpAny M (A.over c fs) (pyIter x) (fun it s₂ =>
        ∀ p, Seg M A R Y n s₀ (.forLoop target it body orelse env) (M.den (.forLoop target it body orelse env))
      (.ret (fun r => ((match r with | .ok f => (.pure f : Sem Flow) | .error e => .raise e).onRaise fun (x : Value) => do
        if (← field x 1) == Value.none then unsupported "frame.own-activation:exception-without-traceback"
        setFlight x env.frame).wrap K H gd lv) none (gd false) (lv []) c p [] :: fs) s₂) (fun x s' => Seg M A R Y n s₀ c (H x) fs s') s₁)
      (fun x s' => Seg M A R Y n s₀ c (H x) fs s') s)
    (hs : ∀ x, foldedSetIterable iter env x = pure x := by intro _; rfl) :
    Seg M A R Y n s₀ c ((exec (.For target iter body orelse pos) env).wrap K H gd lv) fs s := by
  rw [exec_For]
  refine seg_bind_wrap (wpAny_standAt ?_)
  refine seg_bind_wrap (wpAny_mono h (fun x s₁ h₁ => ?_) fun _ _ h' => h')
  refine seg_bind_wrap (wpAny_of_eq (hs x) ?_)
  refine seg_bind_wrap (wpAny_standAt ?_)
  refine seg_bind_wrap (wpAny_holding (wpAny_mono h₁ (fun it s₂ h₂ => ?_) fun _ _ h' => h'))
  exact seg_call h₂
end
section
variable {prog : Program} {w : World} {A : Around} {R : GenEnd} {Y : Protocol} {n : Nat} {s₀ : Shared} {fs : List Frame} {s : Shared} {env : Env}
theorem segForLoop {target : Expr} {it : Value} {body orelse : List Stmt}
    (h : wpAny (model prog w) (A.over (.forLoop target it body orelse env) fs) (pyNext it) (fun r s₁ => match r with
        | none => Seg (model prog w) A R Y n s₀ (.forLoop target it body orelse env) (.pure (.again (.block orelse env))) fs s₁
        | some v => wpAny (model prog w) (A.over (.forLoop target it body orelse env) fs) (letOwnedTupleGo target it v) (fun _ s₂ =>
            wpAny (model prog w) (A.over (.forLoop target it body orelse env) fs) (assign target env v) (fun _ s₃ =>
              Seg (model prog w) A R Y n s₀ (.forLoop target it body orelse env) ((execs body env).wrap (fun f => match f with
            | .next | .cont => .pure (.again (.forLoop target it body orelse env))
            | .brk => .pure (.done .next)
            | .ret v => .pure (.done (.ret v))) (fun e => (do noteFrame e env; theTreesLotGoes e : Sem Unit).wrap (fun _ => .raise e) .raise id id) id id) fs s₃)
              (fun x s' => Seg (model prog w) A R Y n s₀ (.forLoop target it body orelse env) ((do noteFrame x env; theTreesLotGoes x : Sem Unit).wrap (fun _ => .raise x) .raise id id) fs s') s₂)
            (fun x s' => Seg (model prog w) A R Y n s₀ (.forLoop target it body orelse env) ((do noteFrame x env; theTreesLotGoes x : Sem Unit).wrap (fun _ => .raise x) .raise id id) fs s') s₁)
      (fun x s' => Seg (model prog w) A R Y n s₀ (.forLoop target it body orelse env) ((do noteFrame x env; theTreesLotGoes x : Sem Unit).wrap (fun _ => .raise x) .raise id id) fs s') s) :
    Seg (model prog w) A R Y n s₀ (.forLoop target it body orelse env) ((model prog w).den (.forLoop target it body orelse env)) fs s := by
  show Seg _ A R Y n s₀ _ ((forTurn target it body orelse env).onRaise (fun x => do noteFrame x env; theTreesLotGoes x)) fs s
  unfold forTurn
  rw [Sem.onRaise_eq_wrap]
  have he : ∀ (x : Value) (s' : Shared), Seg (model prog w) A R Y n s₀ (.forLoop target it body orelse env) ((do noteFrame x env; theTreesLotGoes x : Sem Unit).wrap (fun _ => .raise x) .raise id id) fs s' →
      Seg (model prog w) A R Y n s₀ (.forLoop target it body orelse env) ((do noteFrame x env; theTreesLotGoes x : Sem Unit).bind fun _ => .raise x) fs s' := fun x s' hx => by
    rw [Sem.bind_eq_wrap]; exact hx
  refine seg_bind_wrap (wpAny_standAt ?_)
  refine seg_bind_wrap (wpAny_onRaise (wpAny_mono h (fun r s₁ h₁ => ?_) fun x s' hx => wpAny_standAt (he x s' hx)))
  cases r with
  | none => exact h₁
  | some v =>
    refine seg_bind_wrap (wpAny_mono h₁ (fun _ s₂ h₂ => ?_) fun x s' hx => he x s' hx)
    refine seg_bind_wrap (wpAny_mono h₂ (fun _ s₃ h₃ => ?_) fun x s' hx => he x s' hx)
    rw [Sem.bind_eq_wrap', Sem.wrap_wrap]
    rw [Sem.wrap_congr (execs body env) _ _ (K' := fun f => match f with
            | .next | .cont => .pure (.again (.forLoop target it body orelse env))
            | .brk => .pure (.done .next)
            | .ret v => .pure (.done (.ret v))) (H' := (fun e => (do noteFrame e env; theTreesLotGoes e : Sem Unit).wrap (fun _ => .raise e) .raise id id))
        (fun f => by cases f <;> rfl)
        (fun e => by first | exact Sem.bind_eq_wrap _ _ | (show (do noteFrame e env; theTreesLotGoes e : Sem Unit).bind (fun _ => .raise e) = _; rw [Sem.bind_eq_wrap]))]
    exact h₃
theorem segBlockNil (h : Seg (model prog w) A R Y n s₀ (.block [] env) (.pure (.done .next)) fs s) :
    Seg (model prog w) A R Y n s₀ (.block [] env) ((model prog w).den (.block [] env)) fs s := h
end
end PySem

namespace L2
open PySem PySem.Spec PyProof.Rows GenW
section
variable {X : Cx} {tg : Expr}
theorem gc_more {S : Addr} {ip ip' : List (Addr × Obj)} {A : Around} {c : Code} {fs : List Frame} {gd : Bool → Bool} (g : GC X S ip A c fs gd) (h : ∀ p ∈ ip', p.1 ≠ S) : GC X S (ip ++ ip') A c fs gd where
  pn := g.pn
  ip := fun p hp => (List.mem_append.mp hp).elim (g.ip p) (h p)
  apart := g.apart
  over := g.over
  split := g.split
  guard := g.guard
  gd := g.gd
theorem GI.less {S : Addr} {ip ip' : List (Addr × Obj)} {ys : List V} {σ : St} {H : Hp} {s : Shared} (h : GI X S (ip ++ ip') ys σ H s) : GI X S ip ys σ H s := by
  obtain ⟨acc, c, r, I⟩ := h
  exact ⟨acc, c, r, I.pins_of fun p hp => I.pin p (List.mem_append_right _ ((List.mem_cons.mp hp).elim (fun e => e ▸ List.mem_cons_self) fun z => List.mem_cons_of_mem _ (List.mem_append_left _ z)))⟩
/-- as tFor, with what is out -/
def tGFor (wi : TI) (g : TG) (tb : TGn) : TGn := fun D ys σ H => wi σ H fun J H1 => ∃ W : Nat → Nat → List V → St → Hp → Prop, (∃ m, W 0 m ys σ H1) ∧ ∀ i m ys σ H, W i m ys σ H →
  (J.stop i H ∧ D.nx ys σ H) ∨ (J.go i H ∧ ∃ N : List V → St → Hp → Prop, (∀ ys' σ' H', N ys' σ' H' → ∃ m', m' < m ∧ W (i + 1) m' ys' σ' H') ∧ ∀ x H', J.yld i H x H' → g x σ H' fun σ2 H2 => tb { D with nx := N, ct := N, bk := D.nx } ys σ2 H2)
theorem gs_for {iter : Expr} {body : List Stmt} {wi : TI} {g : TG} {tb : TGn} {pos : Pos} (hp : PassesOwn (model X.prog X.w) X.A X.env X.xe) (hcalm : X.calm = true) (hi : PI X tg iter wi) (hg : PG X tg g) (hb : GSs X body tb)
    (hs : ∀ x, foldedSetIterable iter X.env x = pure x := by intro _; rfl) : GS X (.For tg iter body [] pos) (tGFor wi g tb) := by
  refine ⟨fun A S ip R n ys s₀ c fs K J gd lv s σ H D gc hn k hI ht => ?_⟩
  obtain ⟨acc, cc, r, I⟩ := hI
  refine segFor ?_ hs
  rw [gc.over]
  refine wpAny_mono (hi.run _ s σ H _ I ht) (fun v s1 h1 => ?_) fun x s' hx => k.exc n s₀ x s' hx
  refine wpAny_mono h1 (fun itv s2 h2 => ?_) fun x s' hx => k.exc n s₀ x s' hx
  obtain ⟨it, fp, tn, J', H2, e, I2, T, st2, f2, W, ⟨m0, w0⟩, turn⟩ := h2
  subst e
  intro p
  have gl := fun (kk : Result → Sem PySem.Fin) => gc_loop (k := kk) (c' := .forLoop tg (.ref it) body [] X.env) (l := lv []) (kp := []) (p := p) gc rfl rfl
  have fpS : ∀ b ∈ fp, b ≠ S := fun b hb e => by
    obtain ⟨_, q1, q2, q3, q4, q5⟩ := f2 b hb
    exact q5 (S, lstObj acc cc) (List.mem_append_right _ List.mem_cons_self) e.symm
  have stat : ∀ {H' : Hp}, (∀ b ∈ fp, H' b = none) → ∀ {acc : Array Value} {c : Nat}, ∀ b ∈ fp, FpOk X ((S, lstObj acc c) :: ip) H' b := fun {H'} hn {acc c} b hb => by
    obtain ⟨_, q1, q2, q3, q4, q5⟩ := f2 b hb
    refine ⟨hn b hb, q1, q2, q3, q4, fun p hp => ?_⟩
    rcases List.mem_append.mp hp with z | z
    · exact q5 p (List.mem_append_left _ z)
    · rcases List.mem_cons.mp z with z | z
      · rw [z]
        exact fun e => fpS b hb e.symm
      · exact q5 p (List.mem_append_right _ (List.mem_cons_of_mem _ z))
  have loop : ∀ (m i n : Nat) (ys : List V) (s₀ s : Shared) (σ : St) (H : Hp), n + ys.length = sizeLine → W i m ys σ H → tn i s.heap → (∀ b ∈ fp, H b = none) → GI X S ip ys σ H s →
      Seg (model X.prog X.w) A R (GY X S) n s₀ (.forLoop tg (.ref it) body [] X.env) ((model X.prog X.w).den (.forLoop tg (.ref it) body [] X.env))
        (.ret (fun r => ((match r with | .ok f => (.pure f : Sem Flow) | .error e => .raise e).onRaise (cameBack X.env)).wrap K J gd lv) none (gd false) (lv []) c p [] :: fs) s := by
    intro m
    induction m using Nat.strongRecOn with
    | ind m ih =>
      intro i n ys s₀ s σ H hn w st fr hI
      have ee : ∀ (n : Nat) (s₀ : Shared) (x : Value) (s' : Shared), X.xe x s' → Seg (model X.prog X.w) A R (GY X S) n s₀ (.forLoop tg (.ref it) body [] X.env)
          ((do noteFrame x X.env; theTreesLotGoes x : Sem Unit).wrap (fun _ => .raise x) .raise id id)
          (.ret (fun r => ((match r with | .ok f => (.pure f : Sem Flow) | .error e => .raise e).onRaise (cameBack X.env)).wrap K J gd lv) none (gd false) (lv []) c p [] :: fs) s' := fun n s₀ x s' hx => by
        refine seg_wrap ?_
        rw [(gl _).over]
        refine wpAny_bind (wpAny_mono (hp x s' hx) (fun _ s'' hcb => wpAny_theTreesLotGoes ?_) fun y s'' hcb => ?_)
        · exact seg_leaf (.error x) (seg_cameBack gc k hcb)
        · exact seg_leaf (.error y) (seg_cameBack gc k hcb)
      refine segForLoop ?_
      rw [(gl _).over]
      obtain ⟨acc, cc, r, I⟩ := hI
      rcases turn i m ys σ H w with ⟨stop, qn⟩ | ⟨go, N, hN, step⟩
      · refine wpAny_mono (T.done X rfl rfl rfl hcalm i _ s σ H X.xe I (stat fr) st stop) (fun rr s4 hh => ?_) fun x s' hx => ee n s₀ x s' hx
        obtain ⟨hr, I4⟩ := hh
        subst hr
        refine seg_again rfl (segBlockNil ?_)
        exact seg_leaf (.ok .next) (k.ok n ys s₀ s4 .next hn ⟨σ, H, ⟨acc, cc, r, I4⟩, qn⟩)
      · refine wpAny_mono (T.item X rfl rfl rfl hcalm i _ s σ H X.xe I (stat fr) st go) (fun rr s4 hh => ?_) fun x s' hx => ee n s₀ x s' hx
        obtain ⟨u, hr, h4⟩ := hh
        subst hr
        refine wpAny_mono h4 (fun _ s5 hh => ?_) fun x s' hx => ee n s₀ x s' hx
        obtain ⟨x, H5, I5, r5, y5, st5, fr5⟩ := hh
        have I5' := I5.pinned (stat fr5) (T.obj _ _ st5)
        refine wpAny_mono (hg.run _ s5 σ H5 x u _ I5' r5 (step x H5 y5)) (fun _ s6 hh => ?_) fun x s' hx => ee n s₀ x s' hx
        obtain ⟨σ6, H6, I6, q6⟩ := hh
        have gm : GC X S (ip ++ pinsAt fp s5.heap) A (.forLoop tg (.ref it) body [] X.env) (.ret (fun r => ((match r with | .ok f => (.pure f : Sem Flow) | .error e => .raise e).onRaise (cameBack X.env)).wrap K J gd lv) none (gd false) (lv []) c p [] :: fs) id :=
          gc_more (gl _) fun q hq => fpS q.1 (of_pinsAt hq).1
        have again : ∀ {n' : Nat} {ys' : List V} {s₀' s7 : Shared} {σ7 : St} {H7 : Hp}, n' + ys'.length = sizeLine → GI X S (ip ++ pinsAt fp s5.heap) ys' σ7 H7 s7 → N ys' σ7 H7 →
            Seg (model X.prog X.w) A R (GY X S) n' s₀' (.forLoop tg (.ref it) body [] X.env) (.pure (.again (.forLoop tg (.ref it) body [] X.env)))
              (.ret (fun r => ((match r with | .ok f => (.pure f : Sem Flow) | .error e => .raise e).onRaise (cameBack X.env)).wrap K J gd lv) none (gd false) (lv []) c p [] :: fs) s7 := fun {n' ys' s₀' s7 σ7 H7} hn' I7 n7 => by
          obtain ⟨m', hm, w7⟩ := hN ys' σ7 H7 n7
          have pz : ∀ b ∈ fp, ∀ o, s5.heap.get? b = some o → s7.heap.get? b = some o ∧ H7 b = none := fun b hb o e => by
            obtain ⟨acc7, c7, _, I7'⟩ := I7
            have z := I7'.pin (b, o) (List.mem_append_right _ (List.mem_cons_of_mem _ (List.mem_append_right _ (mem_pinsAt hb e))))
            exact ⟨z.1, z.2.1⟩
          refine seg_again rfl (ih m' hm (i + 1) n' ys' s₀' s7 σ7 H7 hn' w7 (T.keep _ _ _ st5 fun b hb o e => (pz b hb o e).1) (fun b hb => ?_) I7.less)
          obtain ⟨o, e, d⟩ := T.obj _ _ st5 b hb
          exact (pz b hb o e).2
        refine hb.run A S (ip ++ pinsAt fp s5.heap) R n ys s₀ _ _ _ _ id id s6 σ6 H6 { D with nx := N, ct := N, bk := D.nx } gm hn ⟨fun n' ys' s₀' s3 f hn' hs => ?_, fun n' s₀' x s3 hx => ee n' s₀' x s3 hx⟩ ⟨acc, cc, r, I6⟩ q6
        cases f with
        | next =>
          obtain ⟨σ3, H3, I3, n3⟩ := hs
          exact again hn' I3 n3
        | cont =>
          obtain ⟨σ3, H3, I3, n3⟩ := hs
          exact again hn' I3 n3
        | brk =>
          obtain ⟨σ3, H3, I3, n3⟩ := hs
          exact seg_leaf (.ok .next) (k.ok n' ys' s₀' s3 .next hn' ⟨σ3, H3, I3.less, n3⟩)
        | ret v =>
          obtain ⟨x3, σ3, H3, I3, r3, n3⟩ := hs
          exact seg_leaf (.ok (.ret v)) (k.ok n' ys' s₀' s3 (.ret v) hn' ⟨x3, σ3, H3, I3.less, r3, n3⟩)
  exact loop m0 0 n ys s₀ s2 σ H2 hn w0 st2 (fun b hb => (f2 b hb).1) ⟨acc, cc, r, I2⟩
end
end L2

set_option Elab.async false
set_option linter.all false
set_option maxRecDepth 100000
set_option maxHeartbeats 2000000
/-! Lists of lists of ints; a walk in a generator. -/
namespace Sq
open PySem PySem.Spec PyProof.Rows L2
theorem gfor_it {J : It} {n : Nat} {G : Hp → Prop} {Y : Nat → Hp → V → Hp → Prop} (w : Walk J n G Y) {g : TG} {tb : TGn} {D : GEnds} {ys : List V} {σ : L2.St} {H : Hp} (Pv : Nat → List V → L2.St → Hp → Prop) (h0 : Pv 0 ys σ H) (hG : ∀ i ys σ H, i ≤ n → Pv i ys σ H → G H)
    (hs : ∀ i x ys σ H H', i < n → Pv i ys σ H → Y i H x H' → g x σ H' fun σ2 H2 => tb { D with nx := Pv (i + 1), ct := Pv (i + 1), bk := D.nx } ys σ2 H2) (hd : ∀ ys σ H, Pv n ys σ H → D.nx ys σ H) :
    ∃ W : Nat → Nat → List V → L2.St → Hp → Prop, (∃ m, W 0 m ys σ H) ∧ ∀ i m ys σ H, W i m ys σ H →
      (J.stop i H ∧ D.nx ys σ H) ∨ (J.go i H ∧ ∃ N : List V → L2.St → Hp → Prop, (∀ ys' σ' H', N ys' σ' H' → ∃ m', m' < m ∧ W (i + 1) m' ys' σ' H') ∧ ∀ x H', J.yld i H x H' → g x σ H' fun σ2 H2 => tb { D with nx := N, ct := N, bk := D.nx } ys σ2 H2) := by
  refine ⟨fun i m ys σ H => m = n - i ∧ i ≤ n ∧ Pv i ys σ H, ⟨n, by simp, Nat.zero_le _, h0⟩, ?_⟩
  rintro i m ys σ H ⟨rfl, hi, p⟩
  have q := hG i ys σ H hi p
  by_cases hlt : i < n
  · exact .inr ⟨w.goes i H hlt q, Pv (i + 1), fun ys' σ' H' p' => ⟨n - (i + 1), by omega, rfl, hlt, p'⟩, fun x H' y => hs i x ys σ H H' hlt p (w.yields i H x H' hlt q y)⟩
  · have e : i = n := by omega
    subst e
    exact .inl ⟨w.stops H q, hd ys σ H p⟩
/-- at each of them stands its list of ints -/
def RowsAt (H : Hp) : List Addr → List (List Int) → Prop
  | [], [] => True
  | a :: as, c :: cs => H a = some (.lst (c.map V.int)) ∧ RowsAt H as cs
  | _, _ => False
theorem RowsAt.same {H H' : Hp} (s : Same H H') : ∀ {as : List Addr} {cs : List (List Int)}, RowsAt H as cs → RowsAt H' as cs
  | [], [], _ => trivial
  | _ :: _, _ :: _, h => ⟨s _ _ h.1, RowsAt.same s h.2⟩
  | [], _ :: _, h => h.elim
  | _ :: _, [], h => h.elim
theorem RowsAt.len {H : Hp} : ∀ {as : List Addr} {cs : List (List Int)}, RowsAt H as cs → as.length = cs.length
  | [], [], _ => rfl
  | _ :: _, _ :: _, h => congrArg Nat.succ (RowsAt.len h.2)
  | [], _ :: _, h => h.elim
  | _ :: _, [], h => h.elim
theorem RowsAt.app {H : Hp} : ∀ {as : List Addr} {cs : List (List Int)} {bs : List Addr} {ds : List (List Int)}, RowsAt H as cs → RowsAt H bs ds → RowsAt H (as ++ bs) (cs ++ ds)
  | [], [], _, _, _, h2 => h2
  | _ :: _, _ :: _, _, _, h, h2 => ⟨h.1, RowsAt.app h.2 h2⟩
  | [], _ :: _, _, _, h, _ => h.elim
  | _ :: _, [], _, _, h, _ => h.elim
theorem RowsAt.rev {H : Hp} : ∀ {as : List Addr} {cs : List (List Int)}, RowsAt H as cs → RowsAt H as.reverse cs.reverse
  | [], [], _ => trivial
  | _ :: _, _ :: _, h => by
    rw [List.reverse_cons, List.reverse_cons]
    exact (RowsAt.rev h.2).app ⟨h.1, trivial⟩
  | [], _ :: _, h => h.elim
  | _ :: _, [], h => h.elim
theorem RowsAt.get {H : Hp} : ∀ {as : List Addr} {cs : List (List Int)} {i : Nat} {c : List Int}, RowsAt H as cs → cs[i]? = some c → ∃ a, as[i]? = some a ∧ H a = some (.lst (c.map V.int))
  | _ :: _, _ :: _, 0, _, h, e => by
    cases e
    exact ⟨_, rfl, h.1⟩
  | _ :: _, _ :: _, i + 1, _, h, e => RowsAt.get (i := i) h.2 e
  | [], _ :: _, _, _, h, _ => h.elim
  | _, [], _, _, _, e => by simp at e
theorem RowsAt.upd {H : Hp} {p : Addr} {o : HO} : ∀ {as : List Addr} {cs : List (List Int)}, RowsAt H as cs → p ∉ as → RowsAt (upd H p o) as cs
  | [], [], _, _ => trivial
  | a :: _, _ :: _, h, n => ⟨by rw [upd_ne (fun z => n (by rw [z]; exact List.mem_cons_self ..))]; exact h.1, RowsAt.upd h.2 (fun z => n (List.mem_cons_of_mem _ z))⟩
  | [], _ :: _, h, _ => h.elim
  | _ :: _, [], h, _ => h.elim
theorem RowsAt.off {H : Hp} {p : Addr} : ∀ {as : List Addr} {cs : List (List Int)}, RowsAt H as cs → H p = none → p ∉ as
  | [], [], _, _, z => nomatch z
  | a :: _, _ :: _, h, e, z => by
    rcases List.mem_cons.mp z with z | z
    · have := h.1
      rw [← z, e] at this
      cases this
    · exact RowsAt.off h.2 e z
  | [], _ :: _, h, _, _ => h.elim
  | _ :: _, [], h, _, _ => h.elim
theorem map_ref {as : List Addr} {i : Nat} {x : V} (h : (as.map V.ref)[i]? = some x) : ∃ a, as[i]? = some a ∧ V.ref a = x := by
  rw [List.getElem?_map] at h
  exact Option.map_eq_some_iff.mp h
/-- what they hold, as data -/
def dRows (cs : List (List Int)) : List PyData := cs.map fun c => PyData.list (c.map PyData.int)
theorem dp_rows {K : PySem.W.Frag} {H : Hp} : ∀ {as : List Addr} {cs : List (List Int)}, RowsAt H as cs → DpAll K H (as.map V.ref) (dRows cs)
  | [], [], _ => .nil
  | _ :: _, c :: _, h => .cons (.lst (SqL.of h.1) (dp_ints c)) (dp_rows h.2)
  | [], _ :: _, h => h.elim
  | _ :: _, [], h => h.elim
end Sq

set_option Elab.async false
set_option linter.all false
set_option maxRecDepth 100000
set_option maxHeartbeats 1000000
/-! Lists of lists of ints as data. -/
namespace Sq
open PySem PySem.Spec PyProof.Rows L2
theorem eqvAll_ints : ∀ xs ys : List Int, PyData.eqvAll (xs.map PyData.int) (ys.map PyData.int) = decide (xs = ys)
  | [], [] => rfl
  | [], _ :: _ => rfl
  | _ :: _, [] => rfl
  | x :: xs, y :: ys => by
    show (PyData.eqv (.int x) (.int y) && PyData.eqvAll (xs.map PyData.int) (ys.map PyData.int)) = decide (x :: xs = y :: ys)
    rw [eqvAll_ints xs ys]
    have e : PyData.eqv (.int x) (.int y) = decide (x = y) := by
      show (x == y) = decide (x = y)
      by_cases h : x = y
      · rw [decide_eq_true h]; exact beq_iff_eq.mpr h
      · rw [decide_eq_false h]; exact beq_eq_false_iff_ne.mpr h
    rw [e]
    by_cases h1 : x = y
    · by_cases h2 : xs = ys
      · subst h1 h2
        simp
      · simp [h1, h2]
    · simp [h1]
theorem eqv_ints (xs ys : List Int) : PyData.eqv (.list (xs.map PyData.int)) (.list (ys.map PyData.int)) = decide (xs = ys) := eqvAll_ints xs ys
theorem any_rows (r : List Int) : ∀ cs : List (List Int), ((dRows cs).any fun z => PyData.eqv z (.list (r.map PyData.int))) = decide (r ∈ cs)
  | [] => by simp [dRows]
  | c :: cs => by
    show (PyData.eqv (.list (c.map PyData.int)) (.list (r.map PyData.int)) || (dRows cs).any fun z => PyData.eqv z (.list (r.map PyData.int))) = _
    rw [any_rows r cs, eqv_ints]
    by_cases h1 : c = r
    · subst h1
      simp
    · by_cases h2 : r ∈ cs
      · simp [h2]
      · have : ¬ r = c := fun z => h1 z.symm
        simp [h1, h2, this]
theorem lay_rows : ∀ cs : List (List Int), PyData.canLayAll0 (dRows cs) = true
  | [] => rfl
  | c :: cs => by
    show (PyData.canLayAll0 (c.map PyData.int) && PyData.canLayAll0 (dRows cs)) = true
    rw [lay_rows cs, lays_ints c]
    rfl
theorem deep_rows : ∀ cs : List (List Int), PyData.depthAll (dRows cs) ≤ 2
  | [] => Nat.zero_le _
  | c :: cs => Nat.max_le.mpr ⟨Nat.add_le_add_right (deep_ints c) 1, deep_rows cs⟩
theorem shaped_rows (cs : List (List Int)) : SeqAt.shaped (.list (dRows cs)) = true := shaped_il (lay_rows cs) (Nat.le_trans (Nat.add_le_add_right (deep_rows cs) 1) (by decide))
theorem room65 {k : Nat} {A : Around} (r : Room k A) : A.units + 65 < cLine := by have := r.un; omega
def rLenK (K : PySem.W.Frag) : List V → Hp → VK → Prop := fun xs H Q => ∃ p ys, xs = [V.ref p] ∧ (SqL K H p ys ∨ SqT K H p ys) ∧ Q (V.int (ys.length : Nat)) H
theorem call_lenK {X : Cx} : CallR X (.builtin "len") (rLenK X.K) := call_len_seq
def rListK (K : PySem.W.Frag) : List V → Hp → VK → Prop := fun xs H Q => ∃ p ys, xs = [V.ref p] ∧ (SqL K H p ys ∨ SqT K H p ys) ∧ ∀ l, H l = none → Q (.ref l) (upd H l (.lst ys))
theorem call_listK {X : Cx} : CallR X (.type "list") (rListK X.K) := call_list_of
/-- kept by what turns the source alone -/
theorem RowsAt.keep {H H' : Hp} {l d : Addr} (k : ∀ b o, H b = some o → b ≠ l → b ≠ d → H' b = some o) : ∀ {as : List Addr} {cs : List (List Int)}, RowsAt H as cs → l ∉ as → d ∉ as → RowsAt H' as cs
  | [], [], _, _, _ => trivial
  | a :: _, _ :: _, h, n1, n2 => ⟨k _ _ h.1 (fun z => n1 (by rw [z]; exact List.mem_cons_self ..)) (fun z => n2 (by rw [z]; exact List.mem_cons_self ..)), RowsAt.keep k h.2 (fun z => n1 (List.mem_cons_of_mem _ z)) (fun z => n2 (List.mem_cons_of_mem _ z))⟩
  | [], _ :: _, h, _, _ => h.elim
  | _ :: _, [], h, _, _ => h.elim
end Sq

set_option Elab.async false
set_option linter.all false
set_option maxRecDepth 100000
set_option maxHeartbeats 4000000
/-! {e for a in xs for b in ys}, e an int: over the library's rules of the same with a list. -/
namespace Sq
open PySem PySem.Spec PyProof.Rows L2
theorem turnS_out (elt t0 i0 t1 i1 : Expr) (ifs0 ifsB : List Expr) (scope : Scope) (pos : Pos) (it acc : Value) (env : Env) :
    compTurn (.SetComp elt [⟨t0, i0, ifs0, 0⟩, ⟨t1, i1, ifsB, 0⟩] scope pos) 0 it acc env = (do
      standAt i0.pos
      match ← pyNext it with
      | none => pure (.done .next)
      | some v =>
        letOwnedTupleGo t0 it v
        assign t0 env v
        let mut ok := true
        for c in ifs0 do
          if ok then ok ← isTrue c env (eval c env)
        if ok then
          let x ← eval i1 env
          standAt i1.pos
          let x ← foldedSetIterable i1 env x
          let _ ← runOwn (.compStart (.SetComp elt [⟨t0, i0, ifs0, 0⟩, ⟨t1, i1, ifsB, 0⟩] scope pos) 1 (← holding [x] (pyIter x)) acc env) env
        again (.compLoop (.SetComp elt [⟨t0, i0, ifs0, 0⟩, ⟨t1, i1, ifsB, 0⟩] scope pos) 0 it acc env)) := by rfl
theorem turnS_in (elt t0 i0 t1 i1 : Expr) (ifs0 ifsB : List Expr) (scope : Scope) (pos : Pos) (it acc : Value) (env : Env) :
    compTurn (.SetComp elt [⟨t0, i0, ifs0, 0⟩, ⟨t1, i1, ifsB, 0⟩] scope pos) 1 it acc env = (do
      standAt i1.pos
      match ← pyNext it with
      | none => pure (.done .next)
      | some v =>
        letOwnedTupleGo t1 it v
        assign t1 env v
        let mut ok := true
        for c in ifsB do
          if ok then ok ← isTrue c env (eval c env)
        if ok then
          (do let v ← eval elt env; standAt elt.pos; let _ ← call (.builtin "set.add") [acc, v])
        again (.compLoop (.SetComp elt [⟨t0, i0, ifs0, 0⟩, ⟨t1, i1, ifsB, 0⟩] scope pos) 1 it acc env)) := by rfl

section
variable {prog : Program} {w : World} {A : Around} {R : Result → Shared → Prop} {s : Shared} {elt t0 i0 t1 i1 : Expr} {ifs0 ifsB : List Expr} {scope : Scope} {pos : Pos} {it acc : Value} {env : Env}
/-- the outer0 of the first clause -/
theorem loopS_out (plainA : ∀ x, foldedSetIterable i1 env x = pure x) (I : Nat → Shared → Prop)
    (walk0 : ∀ n s, I n s → wpAny (model prog w) A (pyNext it) (fun r s₁ => match r with
      | none => R (.ok .next) s₁
      | some v => wpAny (model prog w) A (letOwnedTupleGo t0 it v) (fun _ s₁' => wpAny (model prog w) A (assign t0 env v) (fun _ s₂ =>
          wpAny (model prog w) A (forIn ifs0 true fun c r => if r = true then do let ok ← isTrue c env (eval c env); pure (ForInStep.yield ok) else pure (ForInStep.yield r)) (fun ok s₃ =>
            if ok = true then wpAny (model prog w) A (eval i1 env) (fun x s₄ => wpAny (model prog w) A (pyIter x) (fun itB s₅ =>
              codeAny (model prog w) A (.compStart (.SetComp elt [⟨t0, i0, ifs0, 0⟩, ⟨t1, i1, ifsB, 0⟩] scope pos) 1 itB acc env) (fun r s' => match r with
                | .ok _ => ∃ m, m < n ∧ I m s'
                | .error _ => False) s₅) (notedBy (model prog w) A env fun e s' => R (.error e) s') s₄) (notedBy (model prog w) A env fun e s' => R (.error e) s') s₃
            else ∃ m, m < n ∧ I m s₃) (notedBy (model prog w) A env fun e s' => R (.error e) s') s₂) (notedBy (model prog w) A env fun e s' => R (.error e) s') s₁') (notedBy (model prog w) A env fun e s' => R (.error e) s') s₁) (notedBy (model prog w) A env fun e s' => R (.error e) s') s)
    (n : Nat) (h : I n s) :
    codeAny (model prog w) A (.compLoop (.SetComp elt [⟨t0, i0, ifs0, 0⟩, ⟨t1, i1, ifsB, 0⟩] scope pos) 0 it acc env) R s := by
  refine codeAny_loop rfl I (fun n s hI => ?_) n h
  show wpAny _ A ((compTurn (.SetComp elt [⟨t0, i0, ifs0, 0⟩, ⟨t1, i1, ifsB, 0⟩] scope pos) 0 it acc env).onRaise (fun x => do noteFrame x env; theTreesLotGoes x)) _ _ s
  refine wpAny_noted ?_
  rw [turnS_out]
  refine wpAny_bind (wpAny_standAt (wpAny_bind (wpAny_mono (walk0 n s hI) (fun r s₁ h₁ => ?_) fun _ _ h' => h')))
  cases r with
  | none => exact wpAny_pure h₁
  | some v =>
    refine wpAny_bind (wpAny_mono h₁ (fun _ s₁' h₁' => ?_) fun _ _ h' => h')
    refine wpAny_bind (wpAny_mono h₁' (fun _ s₂ h₂ => wpAny_bind (wpAny_mono h₂ (fun ok s₃ h₃ => ?_) fun _ _ h' => h')) fun _ _ h' => h')
    cases ok with
    | false => exact wpAny_pure ⟨rfl, h₃⟩
    | true =>
      refine wpAny_bind (wpAny_mono h₃ (fun x s₄ h₄ => ?_) fun _ _ h' => h')
      refine wpAny_bind (wpAny_standAt (wpAny_bind (wpAny_of_eq (plainA x) (wpAny_bind (wpAny_holding (wpAny_mono h₄ (fun itB s₅ h₅ => ?_) fun _ _ h' => h'))))))
      refine wpAny_bind (wpAny_runOwn ?_)
      rw [Around.mark_none]
      refine codeAny_mono h₅ fun r s' hr => ?_
      cases r with
      | ok f =>
        first
          | exact wpAny_pure ⟨rfl, hr⟩
          | exact wpAny_bind (wpAny_pure (wpAny_pure ⟨rfl, hr⟩))
      | error e => exact hr.elim
/-- the outer0 of the second -/
theorem loopS_in (I : Nat → Shared → Prop)
    (walk0 : ∀ n s, I n s → wpAny (model prog w) A (pyNext it) (fun r s₁ => match r with
      | none => R (.ok .next) s₁
      | some v => wpAny (model prog w) A (letOwnedTupleGo t1 it v) (fun _ s₁' => wpAny (model prog w) A (assign t1 env v) (fun _ s₂ =>
          wpAny (model prog w) A (forIn ifsB true fun c r => if r = true then do let ok ← isTrue c env (eval c env); pure (ForInStep.yield ok) else pure (ForInStep.yield r)) (fun ok s₃ =>
            if ok = true then wpAny (model prog w) A (eval elt env) (fun x s₄ =>
              wpAny (model prog w) A (call (.builtin "set.add") [acc, x]) (fun _ s₅ => ∃ m, m < n ∧ I m s₅) (notedBy (model prog w) A env fun e s' => R (.error e) s') s₄) (notedBy (model prog w) A env fun e s' => R (.error e) s') s₃
            else ∃ m, m < n ∧ I m s₃) (notedBy (model prog w) A env fun e s' => R (.error e) s') s₂) (notedBy (model prog w) A env fun e s' => R (.error e) s') s₁') (notedBy (model prog w) A env fun e s' => R (.error e) s') s₁) (notedBy (model prog w) A env fun e s' => R (.error e) s') s)
    (n : Nat) (h : I n s) :
    codeAny (model prog w) A (.compLoop (.SetComp elt [⟨t0, i0, ifs0, 0⟩, ⟨t1, i1, ifsB, 0⟩] scope pos) 1 it acc env) R s := by
  refine codeAny_loop rfl I (fun n s hI => ?_) n h
  show wpAny _ A ((compTurn (.SetComp elt [⟨t0, i0, ifs0, 0⟩, ⟨t1, i1, ifsB, 0⟩] scope pos) 1 it acc env).onRaise (fun x => do noteFrame x env; theTreesLotGoes x)) _ _ s
  refine wpAny_noted ?_
  rw [turnS_in]
  refine wpAny_bind (wpAny_standAt (wpAny_bind (wpAny_mono (walk0 n s hI) (fun r s₁ h₁ => ?_) fun _ _ h' => h')))
  cases r with
  | none => exact wpAny_pure h₁
  | some v =>
    refine wpAny_bind (wpAny_mono h₁ (fun _ s₁' h₁' => ?_) fun _ _ h' => h')
    refine wpAny_bind (wpAny_mono h₁' (fun _ s₂ h₂ => wpAny_bind (wpAny_mono h₂ (fun ok s₃ h₃ => ?_) fun _ _ h' => h')) fun _ _ h' => h')
    cases ok with
    | false => exact wpAny_pure ⟨rfl, h₃⟩
    | true =>
      exact wpAny_bind (wpAny_bind (wpAny_mono h₃ (fun x s₄ h₄ => wpAny_bind (wpAny_standAt (wpAny_bind (wpAny_mono h₄ (fun _ s₅ h₅ => wpAny_pure (wpAny_pure ⟨rfl, h₅⟩)) fun _ _ h' => h')))) fun _ _ h' => h'))
/-- the second clause's start -/
theorem startS_in (h0 : codeAny (model prog w) A (.compLoop (.SetComp elt [⟨t0, i0, ifs0, 0⟩, ⟨t1, i1, ifsB, 0⟩] scope pos) 1 it acc env) R s)
    (h : wpAny (model prog w) A (pyIter it) (fun it' s' => codeAny (model prog w) A (.compLoop (.SetComp elt [⟨t0, i0, ifs0, 0⟩, ⟨t1, i1, ifsB, 0⟩] scope pos) 1 it' acc env) R s')
      (notedBy (model prog w) A env fun x s' => R (.error x) s') s) :
    codeAny (model prog w) A (.compStart (.SetComp elt [⟨t0, i0, ifs0, 0⟩, ⟨t1, i1, ifsB, 0⟩] scope pos) 1 it acc env) R s := by
  refine codeAny_of_tree ?_
  show wpAny _ _ ((compStart (.SetComp elt [⟨t0, i0, ifs0, 0⟩, ⟨t1, i1, ifsB, 0⟩] scope pos) 1 it acc env).onRaise (fun x => do noteFrame x env; standAt theWindowsPlace)) _ _ s
  refine wpAny_notedAt ?_
  unfold compStart
  show wpAny _ _ (ask >>= _) _ _ s
  refine wpAny_bind (wpAny_askSetting (wpAny_ite ?_))
  split
  · first
      | exact wpAny_bind (wpAny_pure (wpAny_pure (And.intro rfl h0)))
      | exact wpAny_pure (And.intro rfl h0)
  · first
      | exact wpAny_bind (wpAny_rule (wpAny_bind (wpAny_standAt (wpAny_bind (wpAny_mono h (fun it' s' h' => wpAny_pure (And.intro rfl h')) fun _ _ x => x)))))
      | (refine wpAny_bind (wpAny_rule ?_); show wpAny _ _ (standAt i1.pos >>= _) _ _ s; exact wpAny_bind (wpAny_standAt (wpAny_bind (wpAny_mono h (fun it' s' h' => wpAny_pure (And.intro rfl h')) fun _ _ x => x))))
end

section
variable {X : Cx}
theorem addI_ok {pins : List (Addr × Obj)} {σ : L2.St} {H : Hp} {s : Shared} {E : Value → Shared → Prop} {D : Addr} {S : Int → Bool} {n : Nat} {y : Int} {ty : Tok} {Q : Value → Shared → Prop} (I : Inv X pins σ H s) (at_ : H D = some (SetO X.w D S n)) (room : n + 1 < scanBound)
    (h : ∀ s', Inv X pins σ (upd H D (SetO X.w D (fun j => S j || decide (j = y)) (if S y = true then n else n + 1))) s' → Q .none s') : wpAny (model X.prog X.w) X.A (call (.builtin "set.add") [.ref D, .int y ty]) Q E s := by
  refine setR_add (setO_get I at_) room fun h' same made => ?_
  have there : ∃ u, h'.get? D = some u := by
    have ⟨o, _, _, _, ho, _⟩ := made
    exact ⟨o, ho⟩
  exact h _ (I.write (e := D) (t' := s.toks + 1) (by rw [at_]; trivial) (.inl rfl) (fun b u hb hu => (same.2 b hb).trans hu) there (setO_new made))
/-- [elt for tg in iter if .. for tgB in iterB if ..]: behind the first clause's store and tests the second source's own outer0, from which NxA is reached. vs: the block's names; vsB: those of the second target -/
def tSc2 (w : World) (wi : TI) (g : TG) (tt : TT) (wiB : TI) (gB : TG) (ttB : TT) (te : TE) (vs vsB : List Nat) : TE := fun σ H Q => wi σ H fun J H1 => ∀ D, H1 D = none → ∃ W : Nat → Nat → Hp → Prop, (∃ m, W 0 m (upd H1 D (SetO w D (fun _ => false) 0))) ∧ ∀ i m H, W i m H →
  (J.stop i H ∧ Q (.ref D) H) ∨ (J.go i H ∧ ∃ NxA : Hp → Prop, (∀ H', NxA H' → ∃ m', m' < m ∧ W (i + 1) m' H') ∧ ∀ x H', J.yld i H x H' → g x (wipe σ vs) H' fun σa HB => wipe σa vs = wipe σ vs ∧ tt σa HB fun b HC =>
    if b = true then wiB σa HC fun JB HD => ∃ WB : Nat → Nat → Hp → Prop, (∃ m, WB 0 m HD) ∧ ∀ j k H, WB j k H →
      (JB.stop j H ∧ NxA H) ∨ (JB.go j H ∧ ∃ NxB : Hp → Prop, (∀ H', NxB H' → ∃ k', k' < k ∧ WB (j + 1) k' H') ∧ ∀ x H', JB.yld j H x H' → gB x (wipe σa vsB) H' fun σb HE => wipe σb vsB = wipe σa vsB ∧ ttB σb HE fun b HF =>
        if b = true then te σb HF fun y HG => ∃ (c : Int) (S : Int → Bool) (n : Nat), y = .int c ∧ HG D = some (SetO w D S n) ∧ n + 1 < scanBound ∧ NxB (upd HG D (SetO w D (fun j => S j || decide (j = c)) (if S c = true then n else n + 1))) else NxB HF)
    else NxA HC)
theorem sc2_core {pins : List (Addr × Obj)} {s : Shared} {σ : L2.St} {H : Hp} {Q : VK} {elt tg iter tgB iterB : Expr} {ifs ifsB : List Expr} {scope : Scope} {own : List (Str × Nat)} {vsB : List Nat} {pos pos' : Pos} {wi wiB : TI} {g gB : TG} {tt ttB : TT} {te : TE} {use : Option (Value → Sem Unit)} {Qf : Value → Shared → Prop}
    (mood : X.calm = true) (nodupN : X.N.Nodup) (I : Inv X pins σ H s) (sourceA : PI X tg iter wi) (ok : BlkOk X.N X.env.scope scope own) (subB : ∀ i ∈ vsB, i ∈ own.map (·.2))
    (targetA : ∀ (s : Shared) (H : Hp) (C : Addr) (cl : List (Str × Addr)) (fp : List Addr), PG (X.blk s H scope (compEnvC scope cl C X.env) fp) tg g) (testsA : ∀ (s : Shared) (H : Hp) (C : Addr) (cl : List (Str × Addr)) (fp : List Addr), PTs (X.blk s H scope (compEnvC scope cl C X.env) fp) ifs tt)
    (elemA : ∀ (s : Shared) (H : Hp) (C : Addr) (cl : List (Str × Addr)) (fp : List Addr), PE (X.blk s H scope (compEnvC scope cl C X.env) fp) elt te) (plainA : ∀ x, foldedSetIterable iter X.env x = pure x)
    (sourceB : ∀ (s : Shared) (H : Hp) (C : Addr) (cl : List (Str × Addr)) (fp : List Addr), PI (X.blk s H scope (compEnvC scope cl C X.env) fp) tgB iterB wiB)
    (targetB : ∀ (s : Shared) (H : Hp) (C : Addr) (cl : List (Str × Addr)) (fp : List Addr), PG (X.blk s H scope (compEnvC scope cl C X.env) fp) tgB gB)
    (testsB : ∀ (s : Shared) (H : Hp) (C : Addr) (cl : List (Str × Addr)) (fp : List Addr), PTs (X.blk s H scope (compEnvC scope cl C X.env) fp) ifsB ttB)
    (plainB : ∀ env x, foldedSetIterable iterB env x = pure x)
    (h : tSc2 X.w wi g tt wiB gB ttB te (own.map (·.2)) vsB σ H Q)
    (back : ∀ D C s' m H', Inv X pins σ H' s' → Q (.ref D) H' → s'.heap.Ns C m → FpOk X pins H' C → compPost (model X.prog X.w) X.A X.xe use Qf (.ref D) C (.ok .next) s') :
    wpAny (model X.prog X.w) X.A (comprehension (.SetComp elt [⟨tg, iter, ifs, 0⟩, ⟨tgB, iterB, ifsB, 0⟩] scope pos) scope X.env pos' (newSet (.type "set")) false (eval iter X.env) use) Qf X.xe s := by
  have captured : ∀ y ∈ scope.names, y.2 = .free → ∃ c, X.env.cells.lookup y.1 = some c := fun y hy e => by
    rcases ok.free y hy e with k | k
    · exact I.ok.has _ (.inl k)
    · exact I.ok.has _ (.inr k)
  refine wpAny_comprehension_free (use := use) rfl plainA (closure_ok captured) ok.kind (fun y hy e => by rw [ok.uniq y hy, e])
    (thn (sourceA.run pins s σ H _ I h) fun srcV sA gotX => thn gotX fun itV sB h2 => ?_)
  obtain ⟨it, fp, tn, J, HB, e, I2, T, st2, f2, q⟩ := h2
  subst e
  refine PpSet.newSet_ok (newEnv_comp ?_)
  generalize atD : sB.heap.objs.size = D
  have freshD : HB D = none := I2.hok.fresh (Nat.le_of_eq atD)
  obtain ⟨W, ⟨mes0, inv0⟩, walk0⟩ := q D freshD
  -- the new list
  generalize laid3 : ({ sB with heap := sB.heap.push { cls := .type "set", dict := none, data := .set #[] 0 (.fresh 0 0 (!X.w.params.followText "set-order")) } } : Shared) = sC
  have J3 : Inv X pins σ (upd HB D (SetO X.w D (fun _ => false) 0)) sC := by
    rw [← laid3]
    refine I2.laid (t' := sB.toks) (fun b o e => Heap.get?_push_of_some _ e) (Nat.le_of_eq atD) ?_
    rw [← atD]
    exact setO_new (setR_fresh X.w)
  have heap3 : sC.heap = sB.heap.push { cls := .type "set", dict := none, data := .set #[] 0 (.fresh 0 0 (!X.w.params.followText "set-order")) } := by rw [← laid3]
  have below : ∀ b ∈ fp, b < sB.heap.objs.size := fun b hb => by
    obtain ⟨o, e, _⟩ := T.obj _ _ st2 b hb
    exact Heap.lt_size e
  have roam3 : ∀ b ∈ fp, FpOk X pins (upd HB D (SetO X.w D (fun _ => false) 0)) b ∧ b < sC.heap.objs.size := fun b hb => by
    have hlt := below b hb
    refine ⟨⟨?_, (f2 b hb).2⟩, by rw [heap3, Heap.size_push]; exact Nat.lt_succ_of_lt hlt⟩
    rw [upd_ne (by rw [← atD]; exact Nat.ne_of_lt hlt)]
    exact (f2 b hb).1
  have turn3 : tn 0 sC.heap := T.keep _ _ _ st2 fun b _ o e => by rw [heap3]; exact Heap.get?_push_of_some _ e
  have J4 := block_start J3 ok nodupN roam3
  have tgt := targetA sC (upd HB D (SetO X.w D (fun _ => false) 0)) sC.heap.objs.size (cellsFrom (sC.heap.objs.size + 1) scope.names (cloFrom X.env.cells scope.names [])) fp
  have tst := testsA sC (upd HB D (SetO X.w D (fun _ => false) 0)) sC.heap.objs.size (cellsFrom (sC.heap.objs.size + 1) scope.names (cloFrom X.env.cells scope.names [])) fp
  have elm := elemA sC (upd HB D (SetO X.w D (fun _ => false) 0)) sC.heap.objs.size (cellsFrom (sC.heap.objs.size + 1) scope.names (cloFrom X.env.cells scope.names [])) fp
  have src1 := sourceB sC (upd HB D (SetO X.w D (fun _ => false) 0)) sC.heap.objs.size (cellsFrom (sC.heap.objs.size + 1) scope.names (cloFrom X.env.cells scope.names [])) fp
  have tgt1 := targetB sC (upd HB D (SetO X.w D (fun _ => false) 0)) sC.heap.objs.size (cellsFrom (sC.heap.objs.size + 1) scope.names (cloFrom X.env.cells scope.names [])) fp
  have tst1 := testsB sC (upd HB D (SetO X.w D (fun _ => false) 0)) sC.heap.objs.size (cellsFrom (sC.heap.objs.size + 1) scope.names (cloFrom X.env.cells scope.names [])) fp
  show codeAny _ _ (.compStart (.SetComp elt [⟨tg, iter, ifs, 0⟩, ⟨tgB, iterB, ifsB, 0⟩] scope pos) 0 (.ref it) (.ref D) (compEnvC scope (cellsFrom (sC.heap.objs.size + 1) scope.names (cloFrom X.env.cells scope.names [])) sC.heap.objs.size X.env)) (compPost (model X.prog X.w) X.A X.xe use Qf (.ref D) sC.heap.objs.size) { sC with heap := pushCells (sC.heap.push { cls := .type "dict", data := .dict #[] }) scope.names }
  have untr : ∀ b ∈ fp, (upd HB D (SetO X.w D (fun _ => false) 0)) b = none := fun b hb => (roam3 b hb).1.1
  generalize blkE : compEnvC scope (cellsFrom (sC.heap.objs.size + 1) scope.names (cloFrom X.env.cells scope.names [])) sC.heap.objs.size X.env = ce at J4 tgt tst elm src1 tgt1 tst1 ⊢
  have locE : ce.locals = sC.heap.objs.size := by subst blkE; rfl
  generalize heapE : upd HB D (SetO X.w D (fun _ => false) 0) = HC at J3 J4 tgt tst elm src1 tgt1 tst1 inv0 untr roam3
  generalize laid4 : ({ sC with heap := pushCells (sC.heap.push { cls := .type "dict", data := .dict #[] }) scope.names } : Shared) = sD at J4 ⊢
  have turn4 : tn 0 sD.heap := T.keep _ _ _ turn3 fun b _ o e => by rw [← laid4]; exact pushCells_keeps _ _ _ _ (Heap.get?_push_of_some _ e)
  have roams : ∀ {σ' : L2.St} {H' : Hp} {s' : Shared}, Inv (X.blk sC HC scope ce fp) [] σ' H' s' → (∀ b ∈ fp, H' b = none) → ∀ b ∈ fp, FpOk (X.blk sC HC scope ce fp) [] H' b := fun {σ' H' s'} I' nsC b hb =>
    ⟨nsC b hb, (I'.ok.exf b hb).1, I'.ok.exfs b hb, .inl hb, fun x c e => (I'.ok.exf b hb).2 x c e, fun p hp => absurd (show p ∈ ([] : List (Addr × Obj)) ++ [] from hp) (by simp)⟩
  have outer0 : codeAny (model X.prog X.w) X.A (.compLoop (.SetComp elt [⟨tg, iter, ifs, 0⟩, ⟨tgB, iterB, ifsB, 0⟩] scope pos) 0 (.ref it) (.ref D) ce) (compPost (model X.prog X.w) X.A X.xe use Qf (.ref D) sC.heap.objs.size) sD := by
    refine loopS_out (plainB ce) (fun n s' => ∃ i H', Inv (X.blk sC HC scope ce fp) [] (wipe σ (own.map (·.2))) H' s' ∧ tn i s'.heap ∧ (∀ b ∈ fp, H' b = none) ∧ W i n H') ?_ mes0 ⟨0, HC, J4, turn4, untr, inv0⟩
    rintro n sE ⟨i, HE, J5, turn5, un5, inv5⟩
    rcases walk0 i n HE inv5 with ⟨atEnd, done0⟩ | ⟨more, NxA, reach, body0⟩
    · have ended := T.done (X.blk sC HC scope ce fp) rfl rfl rfl mood i [] sE _ HE (fun _ _ => False) J5 (roams J5 un5) turn5 atEnd
      refine thnF ended fun r sF ⟨hr, J6⟩ => ?_
      subst hr
      -- back in the def's context
      have J7 : Inv X pins σ HE sF := J3.call' (ch := fp) J6.os J6.base J6.hok J6.bare fun b hb => ⟨(roam3 b hb).1.2.2.2.1, (roam3 b hb).1.2.1, (roam3 b hb).1.2.2.2.2.1, (roam3 b hb).1.2.2.2.2.2⟩
      have freeC : HE sC.heap.objs.size = none := by
        have z : HE ce.locals = none := J6.free
        rw [locE] at z
        exact z
      obtain ⟨m, nsC, _⟩ := J6.loc
      have nsC : sF.heap.Ns ce.locals m := nsC
      rw [locE] at nsC
      exact back D sC.heap.objs.size sF m HE J7 done0 nsC (J3.fpOk (Nat.le_refl _) freeC)
    · have given := T.item (X.blk sC HC scope ce fp) rfl rfl rfl mood i [] sE _ HE (fun _ _ => False) J5 (roams J5 un5) turn5 more
      refine thnF given fun r sF ⟨u, hr, got6⟩ => ?_
      subst hr
      refine thnF got6 fun _ sG ⟨x, HG, J7, rel7, yld7, turn7, un7⟩ => ?_
      have J7p := J7.pinned (roams J7 un7) (T.obj _ _ turn7)
      refine thnF (tgt.run _ sG _ HG x u _ J7p rel7 (body0 x HG yld7)) fun _ sH ⟨τ, HH, J8, wip8, go8⟩ => ?_
      refine thnF (tst.run _ sH τ HH _ J8 go8) fun b sI ⟨HI, J9, go9⟩ => ?_
      -- the turn's end, from any slots that know what the block knew at its start
      have close : ∀ {ρ : L2.St} {s' : Shared} {H' : Hp}, Inv (X.blk sC HC scope ce fp) ([] ++ pinsAt fp sG.heap) ρ H' s' → (wipe σ (own.map (·.2))).length = ρ.length → (∀ (j : Nat) v, (wipe σ (own.map (·.2)))[j]? = some (some v) → ρ[j]? = some (some v)) → NxA H' →
          ∃ m, m < n ∧ ∃ i H', Inv (X.blk sC HC scope ce fp) [] (wipe σ (own.map (·.2))) H' s' ∧ tn i s'.heap ∧ (∀ b ∈ fp, H' b = none) ∧ W i m H' := fun {ρ s' H'} I' lenσ hk nextW => by
        obtain ⟨m', lessM, invM⟩ := reach H' nextW
        have kept : ∀ b ∈ fp, ∀ o, sG.heap.get? b = some o → s'.heap.get? b = some o ∧ H' b = none := fun b hb o e =>
          let z := I'.pin (b, o) (List.mem_append_right _ (List.mem_append_right _ (mem_pinsAt hb e)))
          ⟨z.1, z.2.1⟩
        refine ⟨m', lessM, i + 1, H', (I'.unpinned (pins := [])).weak lenσ hk, T.keep _ _ _ turn7 fun b hb o e => (kept b hb o e).1, fun b hb => ?_, invM⟩
        obtain ⟨o, e, _⟩ := T.obj _ _ turn7 b hb
        exact (kept b hb o e).2
      have len8 : (wipe σ (own.map (·.2))).length = τ.length := by rw [← wip8, wipe_length]
      have know8 : ∀ (j : Nat) v, (wipe σ (own.map (·.2)))[j]? = some (some v) → τ[j]? = some (some v) := fun j v e => by
        rw [← wip8] at e
        exact (wipe_some e).1
      have know9 : ∀ (j : Nat) v, (wipe σ (own.map (·.2)))[j]? = some (some v) → (wipe τ vsB)[j]? = some (some v) := fun j v e => by
        rw [← wip8] at e
        obtain ⟨eqB, e2⟩ := wipe_some e
        rw [wipe_out fun z => e2 (subB j z)]
        exact eqB
      cases b with
      | false =>
        simp only [Bool.false_eq_true, if_false] at go9 ⊢
        exact close J9 len8 know8 go9
      | true =>
        simp only [if_true] at go9 ⊢
        refine thnF (src1.run _ sI τ HI _ J9 go9) fun srcV sJ gotX => thnF gotX fun itV sK got11 => ?_
        obtain ⟨itB, fpB, tnB, JB, HK, eqB, J11, T1, turn11, roam11, WB, ⟨mes1, inv1⟩, step_in⟩ := got11
        subst eqB
        -- the inner outer0
        have roams1 : ∀ {H' : Hp}, (∀ b ∈ fpB, H' b = none) → ∀ b ∈ fpB, FpOk (X.blk sC HC scope ce fp) ([] ++ pinsAt fp sG.heap) H' b := fun nsC b hb => ⟨nsC b hb, (roam11 b hb).2⟩
        have inner0 : codeAny (model X.prog X.w) X.A (.compLoop (.SetComp elt [⟨tg, iter, ifs, 0⟩, ⟨tgB, iterB, ifsB, 0⟩] scope pos) 1 (.ref itB) (.ref D) ce)
            (fun r s' => match r with
              | .ok _ => ∃ m, m < n ∧ ∃ i H', Inv (X.blk sC HC scope ce fp) [] (wipe σ (own.map (·.2))) H' s' ∧ tn i s'.heap ∧ (∀ b ∈ fp, H' b = none) ∧ W i m H'
              | .error _ => False) sK := by
          refine loopS_in (fun k s' => ∃ j H', Inv (X.blk sC HC scope ce fp) ([] ++ pinsAt fp sG.heap) (wipe τ vsB) H' s' ∧ tnB j s'.heap ∧ (∀ b ∈ fpB, H' b = none) ∧ WB j k H') ?_ mes1 ⟨0, HK, J11.weak (wipe_length _ _) (fun j v e => (wipe_some e).1), turn11, fun b hb => (roam11 b hb).1, inv1⟩
          rintro k sL ⟨j, HL, J12, turn12, un12, inv12⟩
          rcases step_in j k HL inv12 with ⟨atEnd1, nextI⟩ | ⟨more1, NxB, reach1, body1⟩
          · refine thnF (T1.done (X.blk sC HC scope ce fp) rfl rfl rfl mood j _ sL (wipe τ vsB) HL (fun _ _ => False) J12 (roams1 un12) turn12 atEnd1) fun r sM ⟨hr, J13⟩ => ?_
            subst hr
            exact close J13 (len8.trans (wipe_length τ vsB).symm) know9 nextI
          · refine thnF (T1.item (X.blk sC HC scope ce fp) rfl rfl rfl mood j _ sL (wipe τ vsB) HL (fun _ _ => False) J12 (roams1 un12) turn12 more1) fun r sM ⟨u1, hr, got13⟩ => ?_
            subst hr
            refine thnF got13 fun _ sN ⟨x1, HN, J14, rel14, yld14, turn14, un14⟩ => ?_
            have J14p := J14.pinned (roams1 un14) (T1.obj _ _ turn14)
            refine thnF (tgt1.run _ sN (wipe τ vsB) HN x1 u1 _ J14p rel14 (body1 x1 HN yld14)) fun _ sO ⟨υ, HO, J15, wip15, go15⟩ => ?_
            refine thnF (tst1.run _ sO υ HO _ J15 go15) fun b1 sP ⟨HP, J16, go16⟩ => ?_
            have close1 : ∀ {s' : Shared} {H' : Hp}, Inv (X.blk sC HC scope ce fp) (([] ++ pinsAt fp sG.heap) ++ pinsAt fpB sN.heap) υ H' s' → NxB H' → ∃ m, m < k ∧ ∃ j H', Inv (X.blk sC HC scope ce fp) ([] ++ pinsAt fp sG.heap) (wipe τ vsB) H' s' ∧ tnB j s'.heap ∧ (∀ b ∈ fpB, H' b = none) ∧ WB j m H' := fun {s' H'} I' nextW => by
              obtain ⟨m', lessM, invM⟩ := reach1 H' nextW
              have kept : ∀ b ∈ fpB, ∀ o, sN.heap.get? b = some o → s'.heap.get? b = some o ∧ H' b = none := fun b hb o e =>
                let z := I'.pin (b, o) (List.mem_append_right _ (List.mem_append_right _ (mem_pinsAt hb e)))
                ⟨z.1, z.2.1⟩
              refine ⟨m', lessM, j + 1, H', I'.unpinned.weak (by rw [← wip15, wipe_length]) (fun j v e => by rw [← wip15] at e; exact (wipe_some e).1), T1.keep _ _ _ turn14 fun b hb o e => (kept b hb o e).1, fun b hb => ?_, invM⟩
              obtain ⟨o, e, _⟩ := T1.obj _ _ turn14 b hb
              exact (kept b hb o e).2
            cases b1 with
            | false =>
              simp only [Bool.false_eq_true, if_false] at go16 ⊢
              exact close1 J16 go16
            | true =>
              simp only [if_true] at go16 ⊢
              refine thnF (elm.run _ sP υ HP _ J16 go16) fun z sQ ⟨yv, HQ, J17, rel17, cb, S0, n0, ey, acc17, room17, nextW⟩ => ?_
              subst ey
              obtain ⟨tz, rfl⟩ := (show ∃ t, z = Value.int cb t from rel17)
              exact addI_ok (X := X.blk sC HC scope ce fp) J17 acc17 room17 fun sR J18 => close1 J18 nextW
        exact startS_in inner0 (T1.self X.A 0 _ _ _ turn11 inner0)
  exact PpSet.codeAny_compStart_set outer0 (T.self X.A 0 _ _ _ turn4 outer0)
/-- as a value -/
theorem pe_sc2 {elt tg iter tgB iterB : Expr} {ifs ifsB : List Expr} {scope : Scope} {own : List (Str × Nat)} {vsB : List Nat} {pos : Pos} {wi wiB : TI} {g gB : TG} {tt ttB : TT} {te : TE} (mood : X.calm = true) (nodupN : X.N.Nodup) (sourceA : PI X tg iter wi) (ok : BlkOk X.N X.env.scope scope own) (subB : ∀ i ∈ vsB, i ∈ own.map (·.2))
    (targetA : ∀ (s : Shared) (H : Hp) (C : Addr) (cl : List (Str × Addr)) (fp : List Addr), PG (X.blk s H scope (compEnvC scope cl C X.env) fp) tg g) (testsA : ∀ (s : Shared) (H : Hp) (C : Addr) (cl : List (Str × Addr)) (fp : List Addr), PTs (X.blk s H scope (compEnvC scope cl C X.env) fp) ifs tt)
    (sourceB : ∀ (s : Shared) (H : Hp) (C : Addr) (cl : List (Str × Addr)) (fp : List Addr), PI (X.blk s H scope (compEnvC scope cl C X.env) fp) tgB iterB wiB)
    (targetB : ∀ (s : Shared) (H : Hp) (C : Addr) (cl : List (Str × Addr)) (fp : List Addr), PG (X.blk s H scope (compEnvC scope cl C X.env) fp) tgB gB) (testsB : ∀ (s : Shared) (H : Hp) (C : Addr) (cl : List (Str × Addr)) (fp : List Addr), PTs (X.blk s H scope (compEnvC scope cl C X.env) fp) ifsB ttB)
    (elemA : ∀ (s : Shared) (H : Hp) (C : Addr) (cl : List (Str × Addr)) (fp : List Addr), PE (X.blk s H scope (compEnvC scope cl C X.env) fp) elt te) (plainA : ∀ x, foldedSetIterable iter X.env x = pure x := by intro _; rfl) (plainB : ∀ env x, foldedSetIterable iterB env x = pure x := by intro _ _; rfl) :
    PE X (.SetComp elt [⟨tg, iter, ifs, 0⟩, ⟨tgB, iterB, ifsB, 0⟩] scope pos) (tSc2 X.w wi g tt wiB gB ttB te (own.map (·.2)) vsB) := by
  refine ⟨fun pins s σ H Q I h => ?_⟩
  rw [PpSet.eval_SetComp]
  refine sc2_core mood nodupN I sourceA ok subB targetA testsA elemA plainA sourceB targetB testsB plainB h fun D C s' m H' I' q nsC f => ⟨m, nsC, fun h'' sb => ?_⟩
  obtain ⟨f0, f1, f2, roam3, f4, f5⟩ := f
  exact ⟨.ref D, H', I'.turned (t' := s'.toks) (fun b o hb e => (sb.2 b hb).trans e) f0 f1 roam3 f4 f5, rfl, q⟩
end
end Sq

set_option Elab.async false
set_option linter.all false
set_option maxHeartbeats 1000000
/-! Choices counted: the longest run after a replacement, and how many choices are good. -/
namespace Sq
def la (L k : Int) : Int := if k > L then L else (L + 1) / k + k - 2
/-- 2, 3, .., g -/
def cand (g : Int) : List Int := (List.range (g - 1).toNat).map fun i : Nat => 2 + (i : Int)
theorem mem_cand {g k : Int} : k ∈ cand g ↔ 2 ≤ k ∧ k ≤ g := by
  unfold cand
  rw [List.mem_map]
  constructor
  · rintro ⟨i, hi, rfl⟩
    have := List.mem_range.mp hi
    omega
  · intro h
    exact ⟨(k - 2).toNat, List.mem_range.mpr (by omega), by omega⟩
def cnt (g : Int) : Nat → Int → Nat
  | 0, L => if L ≤ 1 then 1 else 0
  | n + 1, L => ((cand g).map fun k => cnt g n (la L k)).sum
theorem la_le {L k : Int} (hk : 2 ≤ k) (h0 : 0 ≤ L) : 0 ≤ la L k ∧ la L k ≤ L := by
  unfold la
  split
  · omega
  · rename_i h
    have hk' : k ≤ L := by omega
    have q1 : 1 ≤ (L + 1) / k := Int.le_ediv_of_mul_le (by omega) (by omega)
    refine ⟨by omega, ?_⟩
    by_cases c : (L + 1) / k + k - 2 ≤ L
    · exact c
    · exfalso
      have e := Int.mul_ediv_add_emod (L + 1) k
      have r0 := Int.emod_nonneg (L + 1) (by omega : k ≠ 0)
      generalize (L + 1) / k = q at *
      have m : (k - 1) * (q - 1) ≥ 0 := Int.mul_nonneg (by omega) (by omega)
      have e2 : (k - 1) * (q - 1) = k * q - k - q + 1 := by
        rw [Int.sub_mul, Int.mul_sub, Int.mul_one, Int.one_mul]
        omega
      omega
/-- what a reach says of the longest run -/
theorem la_reach {L k R : Int} (hk : 2 ≤ k) (hR : 1 ≤ R) (h0 : 0 ≤ L) (h : la L k ≤ R) : L ≤ grow R := by
  have g := (rw1_le_grow (k := k) hk hR).1
  unfold la at h
  split at h
  · have := grow_gt hR
    omega
  · rename_i hl
    by_cases c : k ≤ R + 2
    · rw [rw1_low c] at g
      have lt : L + 1 < (R + 3 - k) * k := by
        have : (L + 1) / k < R + 3 - k := by omega
        exact (Int.ediv_lt_iff_lt_mul (by omega)).mp this
      omega
    · exfalso
      have : 0 ≤ (L + 1) / k := Int.ediv_nonneg (by omega) (by omega)
      omega
theorem cnt_zero {g : Int} : ∀ {n : Nat} {L : Int}, 0 ≤ L → up n 1 < L → cnt g n L = 0
  | 0, L, _, h => if_neg (by show ¬ L ≤ 1; have : (1 : Int) < L := h; omega)
  | n + 1, L, h0, h => by
    show ((cand g).map fun k => cnt g n (la L k)).sum = 0
    have all : ∀ x ∈ (cand g).map (fun k => cnt g n (la L k)), x = 0 := fun x hx => by
      obtain ⟨k, hk, rfl⟩ := List.mem_map.mp hx
      have k2 := (mem_cand.mp hk).1
      refine cnt_zero (la_le k2 h0).1 ?_
      by_cases c : la L k ≤ up n 1
      · have := la_reach k2 (up_pos (by decide) n) h0 c
        have e : up (n + 1) 1 = grow (up n 1) := rfl
        omega
      · omega
    generalize (cand g).map (fun k => cnt g n (la L k)) = xs at all
    induction xs with
    | nil => rfl
    | cons x xs ih => rw [List.sum_cons, all x (List.mem_cons_self ..), ih fun y hy => all y (List.mem_cons_of_mem _ hy)]
theorem cand_len (g : Int) : (cand g).length = (g - 1).toNat := by
  unfold cand
  rw [List.length_map, List.length_range]
theorem cnt_le {g : Int} : ∀ (n : Nat) (L : Int), cnt g n L ≤ (g - 1).toNat ^ n
  | 0, L => by show (if L ≤ 1 then 1 else 0) ≤ 1; split <;> omega
  | n + 1, L => by
    show ((cand g).map fun k => cnt g n (la L k)).sum ≤ (g - 1).toNat ^ (n + 1)
    have b : ∀ (xs : List Int), (xs.map fun k => cnt g n (la L k)).sum ≤ xs.length * (g - 1).toNat ^ n := fun xs => by
      induction xs with
      | nil => exact Nat.zero_le _
      | cons x xs ih =>
        rw [List.map_cons, List.sum_cons, List.length_cons, Nat.add_mul, Nat.one_mul]
        have := cnt_le (g := g) n (la L x)
        omega
    have := b (cand g)
    rw [cand_len] at this
    rw [Nat.pow_succ, Nat.mul_comm]
    exact this
/-- how far n steps reach decides how many are needed -/
theorem up_up {n m : Nat} {v : Int} (hv : 1 ≤ v) (h : n ≤ m) : up n v ≤ up m v := up_mono hv h
/-- distinct ints between 0 and L -/
theorem few_ints : ∀ {ds : List Int} {L : Int}, ds.Nodup → (∀ x ∈ ds, 0 ≤ x ∧ x ≤ L) → 0 ≤ L → ds.length ≤ L.toNat + 1 := fun {ds L} nd h h0 => by
  have sub : (ds.map Int.toNat).Nodup := by
    induction ds with
    | nil => exact List.nodup_nil
    | cons x xs ih =>
      rw [List.map_cons, List.nodup_cons]
      rw [List.nodup_cons] at nd
      refine ⟨fun z => ?_, ih nd.2 fun y hy => h y (List.mem_cons_of_mem _ hy)⟩
      obtain ⟨y, hy, e⟩ := List.mem_map.mp z
      have hx := h x (List.mem_cons_self ..)
      have hy' := h y (List.mem_cons_of_mem _ hy)
      have : y = x := by omega
      exact nd.1 (this ▸ hy)
  have sub2 : (ds.map Int.toNat) ⊆ List.range (L.toNat + 1) := fun x hx => by
    obtain ⟨y, hy, e⟩ := List.mem_map.mp hx
    have := h y hy
    exact List.mem_range.mpr (by omega)
  have := List.Nodup.length_le_of_subset sub sub2
  rw [List.length_map, List.length_range] at this
  exact this
end Sq

set_option Elab.async false
set_option linter.all false
set_option maxRecDepth 100000
set_option maxHeartbeats 1000000
/-! Walks with an open step; members without doubles; the lengths by place. -/
namespace Sq
open PySem PySem.Spec PyProof.Rows L2
theorem walkL {K : PySem.W.Frag} {a : Addr} {xs : List V} {Qd : Hp → Prop} {St : V → Hp → (Hp → Prop) → Prop} {H0 : Hp} (Pv : Nat → Hp → Prop) (h0 : Pv 0 H0) (hl : ∀ i H, i ≤ xs.length → Pv i H → SqL K H a xs)
    (hs : ∀ i x H, xs[i]? = some x → Pv i H → St x H (Pv (i + 1))) (hd : ∀ H, Pv xs.length H → Qd H) :
    ∃ W : Nat → Nat → Hp → Prop, (∃ m, W 0 m H0) ∧ ∀ i m H, W i m H → ((Itl K a).stop i H ∧ Qd H) ∨ ((Itl K a).go i H ∧ ∃ Nx : Hp → Prop, (∀ H', Nx H' → ∃ m', m' < m ∧ W (i + 1) m' H') ∧ ∀ x H', (Itl K a).yld i H x H' → St x H' Nx) := by
  refine ⟨fun i m H => m = xs.length - i ∧ i ≤ xs.length ∧ Pv i H, ⟨_, rfl, Nat.zero_le _, h0⟩, ?_⟩
  rintro i m H ⟨rfl, le, p⟩
  have there := hl i H le p
  by_cases lt : i < xs.length
  · exact .inr ⟨⟨xs, xs[i], there, List.getElem?_eq_getElem lt⟩, Pv (i + 1), fun H' p' => ⟨xs.length - (i + 1), by omega, rfl, lt, p'⟩, fun x H' y => by
      obtain ⟨rfl, e⟩ := y
      exact hs i x _ (e xs there) p⟩
  · obtain rfl : i = xs.length := by omega
    exact .inl ⟨⟨xs, there, Nat.le_refl _⟩, hd H p⟩
theorem walkR {lo : Int} {n : Nat} {Qd : Hp → Prop} {St : V → Hp → (Hp → Prop) → Prop} {H0 : Hp} (Pv : Nat → Hp → Prop) (h0 : Pv 0 H0)
    (hs : ∀ i H, i < n → Pv i H → St (.int (lo + i)) H (Pv (i + 1))) (hd : ∀ H, Pv n H → Qd H) :
    ∃ W : Nat → Nat → Hp → Prop, (∃ m, W 0 m H0) ∧ ∀ i m H, W i m H → ((Itr lo n).stop i H ∧ Qd H) ∨ ((Itr lo n).go i H ∧ ∃ Nx : Hp → Prop, (∀ H', Nx H' → ∃ m', m' < m ∧ W (i + 1) m' H') ∧ ∀ x H', (Itr lo n).yld i H x H' → St x H' Nx) := by
  refine ⟨fun i m H => m = n - i ∧ i ≤ n ∧ Pv i H, ⟨_, rfl, Nat.zero_le _, h0⟩, ?_⟩
  rintro i m H ⟨rfl, le, p⟩
  by_cases lt : i < n
  · exact .inr ⟨lt, Pv (i + 1), fun H' p' => ⟨n - (i + 1), by omega, rfl, lt, p'⟩, fun x H' y => by
      obtain ⟨rfl, rfl⟩ := y
      exact hs i _ lt p⟩
  · obtain rfl : i = n := by omega
    exact .inl ⟨Nat.le_refl _, hd H p⟩
/-! ### without doubles -/
def dd (vs : List Int) : List Int := vs.foldl (fun ds x => if x ∈ ds then ds else ds ++ [x]) []
theorem dd_snoc (vs : List Int) (y : Int) : dd (vs ++ [y]) = if y ∈ dd vs then dd vs else dd vs ++ [y] := by
  unfold dd
  rw [List.foldl_append]
  rfl
theorem dd_mem (vs : List Int) (x : Int) : x ∈ dd vs ↔ x ∈ vs := by
  suffices h : ∀ (n : Nat) (vs : List Int), vs.length = n → (x ∈ dd vs ↔ x ∈ vs) from h _ vs rfl
  intro n
  induction n with
  | zero =>
    intro vs h
    rw [List.length_eq_zero_iff.mp h]
    exact Iff.rfl
  | succ n ih =>
    intro vs h
    obtain ⟨ws, y, rfl⟩ : ∃ ws y, vs = ws ++ [y] := ⟨vs.dropLast, vs.getLast (by intro z; rw [z] at h; cases h), (List.dropLast_concat_getLast _).symm⟩
    have hw : ws.length = n := by simpa using h
    have e := ih ws hw
    rw [dd_snoc, List.mem_append, List.mem_singleton]
    by_cases c : y ∈ dd ws
    · rw [if_pos c, e]
      constructor
      · exact .inl
      · rintro (z | z)
        · exact z
        · exact e.mp (z ▸ c)
    · rw [if_neg c, List.mem_append, List.mem_singleton, e]
theorem dd_nodup (vs : List Int) : (dd vs).Nodup ∧ (dd vs).length ≤ vs.length := by
  suffices h : ∀ (n : Nat) (vs : List Int), vs.length = n → (dd vs).Nodup ∧ (dd vs).length ≤ vs.length from h _ vs rfl
  intro n
  induction n with
  | zero =>
    intro vs h
    rw [List.length_eq_zero_iff.mp h]
    exact ⟨List.nodup_nil, Nat.le_refl _⟩
  | succ n ih =>
    intro vs h
    obtain ⟨ws, y, rfl⟩ : ∃ ws y, vs = ws ++ [y] := ⟨vs.dropLast, vs.getLast (by intro z; rw [z] at h; cases h), (List.dropLast_concat_getLast _).symm⟩
    have hw : ws.length = n := by simpa using h
    obtain ⟨a, b⟩ := ih ws hw
    rw [dd_snoc, List.length_append]
    by_cases c : y ∈ dd ws
    · rw [if_pos c]
      exact ⟨a, by omega⟩
    · rw [if_neg c, List.length_append]
      refine ⟨List.nodup_append.mpr ⟨a, by simp, ?_⟩, Nat.add_le_add_right b 1⟩
      intro x hx y' hy z
      rw [List.mem_singleton] at hy
      exact c (by rw [← hy, ← z]; exact hx)
theorem dd_set (vs : List Int) (y : Int) : (fun j => decide (j ∈ dd vs) || decide (j = y)) = (fun j => decide (j ∈ dd (vs ++ [y]))) ∧ (if decide (y ∈ dd vs) = true then (dd vs).length else (dd vs).length + 1) = (dd (vs ++ [y])).length := by
  constructor
  · funext j
    rw [Bool.eq_iff_iff]
    simp only [Bool.or_eq_true, decide_eq_true_eq, dd_mem, List.mem_append, List.mem_singleton]
  · rw [dd_snoc]
    by_cases c : y ∈ dd vs
    · rw [if_pos (decide_eq_true c), if_pos c]
    · rw [if_neg (by simpa using c), if_neg c, List.length_append]
      rfl
/-! ### the lengths by place -/
structure Lens (n : Nat) (g L : Int) (i : Nat) (rows : List (List Int)) : Prop where
  len : rows.length = i + 1
  zero : rows[0]? = some [L]
  asc : ∀ (p : Nat) (r : List Int), rows[p]? = some r → r.Pairwise (· < ·)
  mem : ∀ (p : Nat) (r : List Int), rows[p]? = some r → ∀ x ∈ r, 0 ≤ x ∧ x ≤ L
  next : ∀ (p : Nat) (r r' : List Int), rows[p]? = some r → rows[p + 1]? = some r' → ∀ x, x ∈ r' ↔ (∃ l ∈ r, ∃ k, 2 ≤ k ∧ k ≤ g ∧ x = la l k) ∧ x ≤ up (n - (p + 1)) 1
  short : L < 63 ∨ ∀ (p : Nat) (r : List Int), rows[p]? = some r → r.length ≤ 6
theorem Lens.start {n : Nat} {g L : Int} (h0 : 0 ≤ L) : Lens n g L 0 [[L]] where
  len := rfl
  zero := rfl
  asc := fun p r e => by
    match p, e with
    | 0, e => cases e; exact List.pairwise_singleton _ _
  mem := fun p r e x hx => by
    match p, e with
    | 0, e =>
      cases e
      rw [List.mem_singleton.mp hx]
      exact ⟨h0, Int.le_refl _⟩
  next := fun p r r' e e' => by
    match p, e' with
    | 0, e' => cases e'
    | p + 1, e' => cases e'
  short := .inr fun p r e => by
    match p, e with
    | 0, e => cases e; exact (show 1 ≤ 6 by decide)
theorem asc_nodup {ns : List Int} (h : ns.Pairwise (· < ·)) : ns.Nodup := List.Pairwise.imp (fun {a b} z e => by omega) h
/-- one place more -/
theorem Lens.more {n : Nat} {g L : Int} {i : Nat} {rows : List (List Int)} {r : List Int} {ns : List Int} (S : Lens n g L i rows) (hr : rows[i]? = some r) (h0 : 0 ≤ L) (hi : i < n) (lim : L < 63 ∨ (n ≤ 4 ∧ g ≤ 7))
    (asc : ns.Pairwise (· < ·)) (mem : ∀ x, x ∈ ns ↔ ∃ l ∈ r, ∃ k, 2 ≤ k ∧ k ≤ g ∧ x = la l k) (few : ns.length ≤ r.length * (g - 1).toNat) :
    Lens n g L (i + 1) (rows ++ [ns.filter fun x => decide (x ≤ up (n - (i + 1)) 1)]) := by
  have len := S.len
  have last : ∀ p q, (rows ++ [ns.filter fun x => decide (x ≤ up (n - (i + 1)) 1)])[p]? = some q → rows[p]? = some q ∨ (p = i + 1 ∧ q = ns.filter fun x => decide (x ≤ up (n - (i + 1)) 1)) := fun p q e => by
    by_cases c : p < rows.length
    · rw [List.getElem?_append_left c] at e
      exact .inl e
    · rw [List.getElem?_append_right (by omega)] at e
      have hp : p = rows.length := by
        have := (List.getElem?_eq_some_iff.mp e).1
        simp at this
        omega
      rw [hp, Nat.sub_self] at e
      cases e
      exact .inr ⟨by omega, rfl⟩
  have bnd : ∀ x ∈ ns, 0 ≤ x ∧ x ≤ L := fun x hx => by
    obtain ⟨l, hl, k, k1, k2, rfl⟩ := (mem x).mp hx
    have a := S.mem i r hr l hl
    have b := la_le k1 a.1
    omega
  have sub : ∀ x ∈ ns.filter (fun x => decide (x ≤ up (n - (i + 1)) 1)), x ∈ ns ∧ x ≤ up (n - (i + 1)) 1 := fun x hx => by
    obtain ⟨a, b⟩ := List.mem_filter.mp hx
    exact ⟨a, of_decide_eq_true b⟩
  refine ⟨by rw [List.length_append, len]; rfl, ?_, fun p q e => ?_, fun p q e x hx => ?_, fun p q q' e e' x => ?_, ?_⟩
  · rw [List.getElem?_append_left (by omega)]
    exact S.zero
  · rcases last p q e with e | ⟨_, rfl⟩
    · exact S.asc p q e
    · exact asc.filter _
  · rcases last p q e with e | ⟨_, rfl⟩
    · exact S.mem p q e x hx
    · exact bnd x (sub x hx).1
  · rcases last (p + 1) q' e' with e' | ⟨hp, rfl⟩
    · have lt := (List.getElem?_eq_some_iff.mp e').1
      rcases last p q e with e | ⟨hp, _⟩
      · exact S.next p q q' e e' x
      · omega
    · have hp' : p = i := by omega
      subst hp'
      rcases last p q e with e | ⟨hp, _⟩
      · rw [hr] at e
        cases e
        rw [List.mem_filter, mem x, decide_eq_true_eq]
      · omega
  · rcases lim with l | ⟨n4, g7⟩
    · exact .inl l
    · rcases S.short with l | sh
      · exact .inl l
      · refine .inr fun p q e => ?_
        rcases last p q e with e | ⟨hp, rfl⟩
        · exact sh p q e
        · by_cases z : i = 0
          · subst z
            have e0 := S.zero
            rw [hr] at e0
            cases e0
            have := List.length_filter_le (fun x => decide (x ≤ up (n - (0 + 1)) 1)) ns
            have h1 : [L].length = 1 := rfl
            rw [h1] at few
            omega
          · have nd := (asc_nodup asc).filter (fun x => decide (x ≤ up (n - (i + 1)) 1))
            have := few_ints (L := 4) nd (fun x hx => ⟨(bnd x (sub x hx).1).1, Int.le_trans (sub x hx).2 (up_mono (v := 1) (by decide) (j := 2) (by omega))⟩) (by decide)
            omega
end Sq

set_option Elab.async false
set_option linter.all false
set_option maxRecDepth 100000
set_option maxHeartbeats 4000000
set_option exponentiation.threshold 2000
namespace Sq
open PySem PySem.Spec PyProof.Rows L2
def topS (i : Nat) : Stmt := PySem.Challenge.pw_squeezelists_k41_texts_read.main.body.getD i (.Pass ⟨0, 0, 0, 0⟩)
abbrev s_readlist : Stmt := topS 9
theorem sc_readlist : FnScope ["text", "found", "part", "digits", "mark", "many", "number"] ["text"] (defScope s_readlist) := ⟨rfl, rfl, rfl, by decide +kernel, rfl, by decide +kernel, by decide +kernel⟩
abbrev s_isnumber : Stmt := topS 10
theorem sc_isnumber : FnScope ["digits"] ["digits"] (defScope s_isnumber) := ⟨rfl, rfl, rfl, by decide +kernel, rfl, by decide +kernel, by decide +kernel⟩
abbrev s_lawrng : Stmt := topS 12
theorem sc_lawrng : FnScope ["script", "digits", "seed", "cell", "far"] ["script"] (defScope s_lawrng) := ⟨rfl, rfl, rfl, by decide +kernel, rfl, by decide +kernel, by decide +kernel⟩
abbrev s_lawdraw : Stmt := topS 13
theorem sc_lawdraw : FnScope ["rng", "limit", "found", "mixed"] ["rng", "limit"] (defScope s_lawdraw) := ⟨rfl, rfl, rfl, by decide +kernel, rfl, by decide +kernel, by decide +kernel⟩
abbrev s_lawnumber : Stmt := topS 14
theorem sc_lawnumber : FnScope ["word", "least", "sign"] ["word", "least"] (defScope s_lawnumber) := ⟨rfl, rfl, rfl, by decide +kernel, rfl, by decide +kernel, by decide +kernel⟩
abbrev s_lawdue : Stmt := topS 15
theorem sc_lawdue : FnScope ["written", "found", "word", "halves", "number", "times"] ["written"] (defScope s_lawdue) := ⟨rfl, rfl, rfl, by decide +kernel, rfl, by decide +kernel, by decide +kernel⟩
abbrev s_lawtold : Stmt := topS 16
theorem sc_lawtold : FnScope ["written", "by_name", "e", "others"] ["written", "by_name"] (defScope s_lawtold) := ⟨rfl, rfl, rfl, by decide +kernel, rfl, by decide +kernel, by decide +kernel⟩
abbrev s_lawparts : Stmt := topS 17
theorem sc_lawparts : FnScope ["rng", "found", "last", "place", "far", "number", "times"] ["rng"] (defScope s_lawparts) := ⟨rfl, rfl, rfl, by decide +kernel, rfl, by decide +kernel, by decide +kernel⟩
abbrev s_lawbent : Stmt := topS 18
theorem sc_lawbent : FnScope ["rng", "written", "words", "some", "spot", "signs", "turn", "cut", "sign"] ["rng", "written"] (defScope s_lawbent) := ⟨rfl, rfl, rfl, by decide +kernel, rfl, by decide +kernel, by decide +kernel⟩
abbrev s_lawsmall : Stmt := topS 19
theorem sc_lawsmall : FnScope ["written", "part", "digits"] ["written"] (defScope s_lawsmall) := ⟨rfl, rfl, rfl, by decide +kernel, rfl, by decide +kernel, by decide +kernel⟩
abbrev s_lawright : Stmt := topS 20
theorem sc_lawright : FnScope ["one", "due", "by_name", "told"] ["one"] (defScope s_lawright) := ⟨rfl, rfl, rfl, by decide +kernel, rfl, by decide +kernel, by decide +kernel⟩
abbrev s_law : Stmt := topS 21
theorem sc_law : FnScope ["script", "rng", "lap", "words", "written", "some", "one", "spot", "fixed"] ["script"] (defScope s_law) := ⟨rfl, rfl, rfl, by decide +kernel, rfl, by decide +kernel, by decide +kernel⟩
/-! ### the draws -/
structure Rng (H : Hp) (l : Addr) (seed cnt : Int) : Prop where
  ob : ∃ dg, H l = some (.lst [.int dg, .int seed, .int cnt])
  s0 : 0 ≤ seed
  s1 : seed < 2305843009213693951
  c0 : 0 ≤ cnt
theorem Rng.same {H H' : Hp} {l : Addr} {seed cnt : Int} (S : Rng H l seed cnt) (s : Same H H') : Rng H' l seed cnt :=
  let ⟨dg, h⟩ := S.ob
  ⟨⟨dg, s _ _ h⟩, S.s0, S.s1, S.c0⟩
/-- all but the object at l is as it was -/
def Keep1 (H H' : Hp) (l : Addr) : Prop := ∀ b o, H b = some o → b ≠ l → H' b = some o
theorem Keep1.trans {H H1 H2 : Hp} {l : Addr} (a : Keep1 H H1 l) (b : Keep1 H1 H2 l) : Keep1 H H2 l := fun c o h n => b c o (a c o h n) n
theorem Keep1.of {H H' : Hp} {l : Addr} (s : Same H H') : Keep1 H H' l := fun b o h _ => s b o h
theorem Keep1.set {H : Hp} {l : Addr} {o : HO} : Keep1 H (upd H l o) l := fun c x h n => by
  rw [upd_ne n]
  exact h
theorem growD {D r T : Int} {a : Nat} (h0 : 0 ≤ D) (h1 : D.natAbs < 2 ^ a) (r0 : 0 ≤ r) (r1 : r < T) (hT : T.natAbs ≤ 2 ^ 200) : 0 ≤ D * T + r ∧ (D * T + r).natAbs < 2 ^ (a + 200) := by
  have t0 : 0 ≤ T := by omega
  have p := Int.mul_nonneg h0 t0
  obtain ⟨d, rfl⟩ := Int.eq_ofNat_of_zero_le h0
  obtain ⟨t, rfl⟩ := Int.eq_ofNat_of_zero_le t0
  refine ⟨by omega, ?_⟩
  have h1' : d < 2 ^ a := by simpa using h1
  have hT' : t ≤ 2 ^ 200 := by simpa using hT
  have m : (d + 1) * t ≤ 2 ^ a * 2 ^ 200 := Nat.mul_le_mul h1' hT'
  rw [Nat.pow_add]
  have e : ((d : Int) * (t : Int)) = ((d * t : Nat) : Int) := by simp
  have e2 : (d + 1) * t = d * t + t := by rw [Nat.add_mul, Nat.one_mul]
  rw [e]
  omega
theorem p10_60 : ((10 : Int) ^ (60 : Int).toNat).natAbs ≤ 2 ^ 200 := by decide
theorem cut63 {xs : List V} (h : xs.length ≤ 63) : cutV xs none (some 63) = xs := by
  unfold cutV
  rw [HT.sIx_none, show HT.sIx xs.length xs.length (some 63) = min 63 xs.length from HT.sIx_nat xs.length xs.length 63, Nat.min_eq_right h]
  show List.take (xs.length - 0) (List.drop 0 xs) = xs
  rw [List.drop_zero, Nat.sub_zero, List.take_length]
section
variable {P : Program} {w : World} {K : PySem.W.Frag} {mg : Str → Option Value} {base : Heap}
def spRng (K : PySem.W.Frag) : Sp := fun vs H Q _ => ∃ (a : Addr) (ns : List Int), vs = [.ref a] ∧ SqL K H a (ns.map V.int) ∧ ns.length ≤ 63 ∧ ∀ l seed H', H l = none → Same H H' → Rng H' l seed 0 → Q (.ref l) H'
theorem ok_lawrng {f : Addr} {fd : FuncData} (F : Fun K "_law_rng" "_law_rng" s_lawrng f fd) (B : Bi mg) : FnOk P w K mg base CX0 1 f fd ["script"] (spRng K) := by
  refine F.ok sc_lawrng (fun vs H Q E h => ?_) (fun cdv A outer s H vs Q E hr h => ?_)
  · obtain ⟨a, ns, rfl, _⟩ := h
    rfl
  · obtain ⟨a, ns, rfl, hS, hn, q⟩ := h
    refine ⟨_, (pss_cons (ps_asg (pe_tup (pa_cons pe_int (pa_cons pe_int pa_nil))) (pg_tup rfl (pgs_cons (pg_name (i := 1) sc_lawrng.nd rfl (Or.inl rfl)) (pgs_cons (pg_name (i := 2) sc_lawrng.nd rfl (Or.inl rfl)) pgs_nil))))
 (pss_cons (ps_for PassesOwn.never rfl (pi_list (pe_slice sl_list (pv 0) po_none (po_some pe_int))) (pg_name (i := 3) sc_lawrng.nd rfl (Or.inl rfl))
 (pss_cons (ps_set (i := 4) sc_lawrng.nd rfl (Or.inl rfl) (pe_callB (id := "abs") call_abs (by rfl) B.n_abs (by decide +kernel) (pa_cons (pv 3) pa_nil)))
 (pss_cons (ps_if (pt_cmpR op_ge (pv 4) (pe_op op_pow pe_int pe_int) (nomark _))
 (pss_one (ps_set (i := 1) sc_lawrng.nd rfl (Or.inl rfl) (pe_op op_add (pe_op op_mulW (pv 1) (pe_op op_pow pe_int pe_int)) (pe_op op_mod (pv 4) (pe_op op_pow pe_int pe_int)))))
 pss_nil)
 (pss_one (ps_set (i := 2) sc_lawrng.nd rfl (Or.inl rfl) (pe_op op_mod (pe_op op_add (pe_op op_add (pe_op op_mul (pv 2) pe_int) (pe_op op_mod (pv 3) pe_int)) pe_int) pe_int))))))
 (pss_one (ps_ret (pe_lst (pa_cons (pv 1) (pa_cons (pv 2) (pa_cons pe_int pa_nil)))))))), ?_⟩
    refine ⟨(by show 2 ≤ sizeLine; exact Nat.le_of_lt (small1000 (by decide))), fun t0 ht0 => ⟨t0, [.int 0, .int 88675123], rfl, .inl (.inl upd_same), rfl, _, _, rfl, _, _, rfl, rfl, ?_⟩⟩
    have sm0 := same_new (o := .tup [.int 0, .int 88675123]) ht0
    refine ⟨_, rfl, 63, rfl, a, _, rfl, sm0.seq hS, fun p hp => ?_⟩
    rw [cut63 (by rw [List.length_map]; exact hn)]
    refine ⟨p, rfl, ⟨_, SqL.of upd_same⟩, for_list (K := K) (a := p) (xs := ns.map V.int) (fun i σ H' => Same (upd (upd H t0 (.tup [.int 0, .int 88675123])) p (.lst (ns.map V.int))) H' ∧ i ≤ 63 ∧ ∃ dg seed y3 y4, σ = [some (.ref a), some (.int dg), some (.int seed), y3, y4] ∧ 0 ≤ dg ∧ dg.natAbs < 2 ^ (200 * i + 1) ∧ 0 ≤ seed ∧ seed < 2305843009213693951)
      ⟨Same.refl _, by decide, 0, 88675123, none, none, rfl, by decide, by decide, by decide, by decide⟩ (fun i σ H' _ h => SqL.of (h.1 _ _ upd_same)) ?_ ?_⟩
    · rintro i x σ H' hi ⟨sm, h63, dg, seed, y3, y4, rfl, d0, d1, s0, s1⟩
      have hil : i < ns.length := by
        have := (List.getElem?_eq_some_iff.mp hi).1
        rwa [List.length_map] at this
      obtain ⟨c, hc, rfl⟩ := map_at hi
      refine ⟨_, rfl, c, rfl, ?_⟩
      generalize (if c < 0 then -c else c) = far
      have t0 : 0 ≤ (seed * 1000003 + c % 2305843009213693921 + 7) % 2305843009213693951 := Int.emod_nonneg _ (by decide)
      have t1 : (seed * 1000003 + c % 2305843009213693921 + 7) % 2305843009213693951 < 2305843009213693951 := Int.emod_lt_of_pos _ (by decide)
      have r0 : 0 ≤ far % 10 ^ (60 : Int).toNat := Int.emod_nonneg _ (by decide)
      have r1 : far % 10 ^ (60 : Int).toNat < 10 ^ (60 : Int).toNat := Int.emod_lt_of_pos _ (by decide)
      obtain ⟨g0, g1⟩ := growD d0 d1 r0 r1 p10_60
      refine ⟨_, rfl, 10, 18, rfl, rfl, ⟨by decide, by decide, by decide⟩, _, _, rfl, rfl, _, rfl, ite2 (fun _ => ?_) (fun _ => ?_)⟩
      · refine ⟨_, rfl, 10, 60, rfl, rfl, ⟨by decide, by decide, by decide⟩, dg, _, rfl, rfl, wide_mul d1 (show ((10 : Int) ^ (60 : Int).toNat).natAbs < 2 ^ 200 by decide) (by omega) (by decide) (by omega), _, rfl, 10, 60, rfl, rfl, ⟨by decide, by decide, by decide⟩, far, _, rfl, rfl, (by decide : (0 : Int) < 10 ^ (60 : Int).toNat), _, _, rfl, rfl, ?_⟩
        refine ⟨_, rfl, seed, 1000003, rfl, rfl, .inr ⟨by decide, by decide⟩, _, rfl, c, _, rfl, rfl, (by decide : (0 : Int) < 2305843009213693921), _, _, rfl, rfl, _, 7, rfl, rfl, _, _, rfl, rfl, (by decide : (0 : Int) < 2305843009213693951), ?_⟩
        exact ⟨sm, by omega, _, _, _, _, rfl, g0, g1, t0, t1⟩
      · refine ⟨_, rfl, seed, 1000003, rfl, rfl, .inr ⟨by decide, by decide⟩, _, rfl, c, _, rfl, rfl, (by decide : (0 : Int) < 2305843009213693921), _, _, rfl, rfl, _, 7, rfl, rfl, _, _, rfl, rfl, (by decide : (0 : Int) < 2305843009213693951), ?_⟩
        exact ⟨sm, by omega, _, _, _, _, rfl, d0, Nat.lt_of_lt_of_le d1 (Nat.pow_le_pow_right (by decide) (by omega)), t0, t1⟩
    · rintro σ H' ⟨sm, h63, dg, seed, y3, y4, rfl, d0, d1, s0, s1⟩
      refine ⟨_, rfl, _, rfl, (by show 3 ≤ sizeLine; exact Nat.le_of_lt (small1000 (by decide))), fun l hl => ?_⟩
      have s2 := (sm0.trans (same_new (o := .lst (ns.map V.int)) hp)).trans sm
      exact q l seed _ (s2.free hl) (s2.trans (same_new hl)) ⟨⟨dg, upd_same⟩, s0, s1, Int.le_refl 0⟩
end
section
variable {P : Program} {w : World} {K : PySem.W.Frag} {mg : Str → Option Value} {base : Heap}
def spDraw : Sp := fun vs H Q _ => ∃ (l : Addr) (seed cnt limit : Int), vs = [.ref l, .int limit] ∧ Rng H l seed cnt ∧ cnt < 1000000 ∧ 0 < limit ∧ limit.natAbs < 2 ^ 700 ∧
  ∀ z cnt' H', 0 ≤ z → z < limit → Rng H' l seed cnt' → cnt' ≤ cnt + 1 → Keep1 H H' l → Q (.int z) H'
theorem ok_lawdraw {f : Addr} {fd : FuncData} (F : Fun K "_law_draw" "_law_draw" s_lawdraw f fd) : FnOk P w K mg base CX0 1 f fd ["rng", "limit"] spDraw := by
  refine F.ok sc_lawdraw (fun vs H Q E h => ?_) (fun cdv A outer s H vs Q E hr h => ?_)
  · obtain ⟨l, seed, cnt, limit, rfl, _⟩ := h
    rfl
  · obtain ⟨l, seed, cnt, limit, rfl, S, hc, hm, hw, q⟩ := h
    refine ⟨_, (pss_cons (ps_if (pt_cmpR op_gt (pe_ix (r := rIxL K) ix_list (pv 0) pe_int (fun _ _ => rfl)) pe_int (nomark _))
 (pss_cons (ps_set (i := 2) sc_lawdraw.nd rfl (Or.inl rfl) (pe_op op_mod (pe_ix (r := rIxL K) ix_list (pv 0) pe_int (fun _ _ => rfl)) (pv 1)))
 (pss_cons (ps_asg (pe_op op_fdivW (pe_ix (r := rIxL K) ix_list (pv 0) pe_int (fun _ _ => rfl)) (pv 1)) (pg_sub (pv 0) pe_int set_list))
 (pss_one (ps_ret (pv 2)))))
 pss_nil)
 (pss_cons (ps_asg (pe_op op_add (pe_ix (r := rIxL K) ix_list (pv 0) pe_int (fun _ _ => rfl)) pe_int) (pg_sub (pv 0) pe_int set_list))
 (pss_cons (ps_set (i := 3) sc_lawdraw.nd rfl (Or.inl rfl) (pe_op op_mod (pe_op op_powW (pe_op op_add (pe_ix (r := rIxL K) ix_list (pv 0) pe_int (fun _ _ => rfl)) (pe_op op_mul pe_int (pe_ix (r := rIxL K) ix_list (pv 0) pe_int (fun _ _ => rfl)))) pe_int) pe_int))
 (pss_cons (ps_set (i := 3) sc_lawdraw.nd rfl (Or.inl rfl) (pe_op op_mod (pe_op op_powW (pe_op op_add (pv 3) (pe_op op_mul pe_int (pe_ix (r := rIxL K) ix_list (pv 0) pe_int (fun _ _ => rfl)))) pe_int) pe_int))
 (pss_one (ps_ret (pe_op op_mod (pe_op op_fdiv (pv 3) pe_int) (pv 1)))))))), ?_⟩
    have s0 := S.s0
    have s1 := S.s1
    have c0 := S.c0
    obtain ⟨dg, hl⟩ := S.ob
    refine ⟨_, rfl, l, _, 0, _, rfl, rfl, SqL.of hl, rfl, dg, 0, rfl, rfl, _, rfl, ite2 (fun c1 => ?_) (fun c1 => ?_)⟩
    · refine ⟨_, rfl, l, _, 0, _, rfl, rfl, SqL.of hl, rfl, _, rfl, dg, limit, rfl, rfl, hm, ?_⟩
      refine ⟨_, rfl, l, _, 0, _, rfl, rfl, SqL.of hl, rfl, _, rfl, dg, limit, rfl, rfl, wide_div hm hw (by decide) (by decide), ?_⟩
      refine ⟨_, rfl, l, _, 0, 0, rfl, rfl, hl, rfl, _, rfl, ?_⟩
      exact q _ cnt _ (Int.emod_nonneg _ (by omega)) (Int.emod_lt_of_pos _ hm) ⟨⟨dg / limit, upd_same⟩, s0, s1, c0⟩ (by omega) Keep1.set
    · refine ⟨_, rfl, l, _, 2, _, rfl, rfl, SqL.of hl, rfl, cnt, 1, rfl, rfl, _, rfl, l, _, 2, 2, rfl, rfl, hl, rfl, ?_⟩
      have hl3 : (upd H l (.lst [.int dg, .int seed, .int (cnt + 1)])) l = some (.lst [.int dg, .int seed, .int (cnt + 1)]) := upd_same
      have b1 : (seed + 998244353 * (cnt + 1)).natAbs < 2 ^ 63 := by omega
      refine ⟨_, rfl, l, _, 1, _, rfl, rfl, SqL.of hl3, rfl, _, rfl, l, _, 2, _, rfl, rfl, SqL.of hl3, rfl, 998244353, cnt + 1, rfl, rfl, .inl ⟨by decide, by decide⟩, seed, _, rfl, rfl, _, 3, rfl, rfl, powW_of (by decide) b1 (by decide) (by decide), _, _, rfl, rfl, (by decide : (0 : Int) < 162259276829213363391578010288127), ?_⟩
      have p0 : 0 ≤ (seed + 998244353 * (cnt + 1)) ^ (3 : Int).toNat % 162259276829213363391578010288127 := Int.emod_nonneg _ (by decide)
      have p1 : (seed + 998244353 * (cnt + 1)) ^ (3 : Int).toNat % 162259276829213363391578010288127 < 162259276829213363391578010288127 := Int.emod_lt_of_pos _ (by decide)
      have b2 : ((seed + 998244353 * (cnt + 1)) ^ (3 : Int).toNat % 162259276829213363391578010288127 + 32452843 * (cnt + 1)).natAbs < 2 ^ 110 := by
        generalize (seed + 998244353 * (cnt + 1)) ^ (3 : Int).toNat % 162259276829213363391578010288127 = y at p0 p1
        omega
      refine ⟨_, rfl, _, rfl, l, _, 2, _, rfl, rfl, SqL.of hl3, rfl, 32452843, cnt + 1, rfl, rfl, .inl ⟨by decide, by decide⟩, _, _, rfl, rfl, _, 3, rfl, rfl, powW_of (by decide) b2 (by decide) (by decide), _, _, rfl, rfl, (by decide : (0 : Int) < 170141183460469231731687303715884105727), ?_⟩
      refine ⟨_, rfl, _, 1048576, rfl, rfl, ⟨by decide, by decide⟩, _, rfl, _, limit, rfl, rfl, hm, ?_⟩
      exact q _ (cnt + 1) _ (Int.emod_nonneg _ (by omega)) (Int.emod_lt_of_pos _ hm) ⟨⟨dg, hl3⟩, s0, s1, by omega⟩ (by omega) Keep1.set
end
theorem Rng.free {H H' : Hp} {l p : Addr} {seed cnt : Int} (k : Keep1 H H' l) (S : Rng H' l seed cnt) (h : H' p = none) : H p = none := by
  obtain ⟨dg, hl⟩ := S.ob
  cases e : H p with
  | none => rfl
  | some o =>
    have := k p o e (fun z => by rw [z, hl] at h; cases h)
    rw [h] at this
    cases this
theorem Rng.ne {H : Hp} {l p : Addr} {seed cnt : Int} (S : Rng H l seed cnt) (h : H p = none) : p ≠ l := fun z => by
  obtain ⟨dg, hl⟩ := S.ob
  rw [z, hl] at h
  cases h
theorem Rng.upd {H : Hp} {l p : Addr} {seed cnt : Int} {o : HO} (S : Rng H l seed cnt) (h : p ≠ l) : Rng (upd H p o) l seed cnt :=
  let ⟨dg, hl⟩ := S.ob
  ⟨⟨dg, by rw [upd_ne h.symm]; exact hl⟩, S.s0, S.s1, S.c0⟩
theorem nth_of {xs : List Int} {z : Int} (h0 : 0 ≤ z) (h : z < xs.length) : ∃ k, k ∈ xs ∧ atI (xs.map V.int) z = some (.int k) := by
  have lt : z.toNat < xs.length := by omega
  refine ⟨xs[z.toNat], List.getElem_mem lt, at_of (j := z.toNat) (by omega) ?_⟩
  rw [List.getElem?_map, List.getElem?_eq_getElem lt]
  rfl

section
variable {P : Program} {w : World} {K : PySem.W.Frag} {mg : Str → Option Value} {base : Heap}
def spIsNum : Sp := fun vs H Q _ => ∃ x : Str, vs = [.str x] ∧ x.length ≤ sizeLine ∧ Q (.bl (numOk (TL.tl x))) H
theorem ok_isnumber {f : Addr} {fd : FuncData} {tm : Tok} (F : Fun K "is_number" "is_number" s_isnumber f fd) (B : Bi mg) (g_MOSTDIGITS : mg "MOST_DIGITS" = some (.int 200 tm)) : FnOk P w K mg base CX0 1 f fd ["digits"] spIsNum := by
  refine F.ok sc_isnumber (fun vs H Q E h => ?_) (fun cdv A outer s H vs Q E hr h => ?_)
  · obtain ⟨x, rfl, _⟩ := h
    rfl
  · obtain ⟨x, rfl, hl, q⟩ := h
    refine ⟨_, (pss_cons (ps_if (PW.pt (pw_or (pt_not (pt_val (pe_m0 PySem.F.slot_str_isascii PySem.F.type_str_isascii mt_isascii (pv 0)))) (pw_or (pt_not (pt_val (pe_m0 PySem.F.slot_str_isdigit PySem.F.type_str_isdigit mt_isdigit (pv 0)))) (pw_or1 (pt_cmpR op_gt (pe_callB (id := "len") call_len_str (by rfl) B.n_len (by decide +kernel) (pa_cons (pv 0) pa_nil)) (pe_glob (v := .int 200) (by rfl) g_MOSTDIGITS ⟨_, rfl⟩) (nomark _))))))
 (pss_one (ps_ret pe_bl))
 pss_nil)
 (pss_one (ps_ret (pe_and (pe_cmpR op_ne (pe_ix ix_str (pv 0) pe_int (fun _ _ => rfl)) pe_str (nomark _)) (pe_one (pe_cmpR op_ne (pv 0) pe_str (nomark _))))))), ?_⟩
    have ad := asc_dig x
    have hlen : x.length = (TL.tl x).length := TL.len_tl x
    refine ⟨_, rfl, ⟨_, rfl⟩, x, rfl, rfl, trivial, _, rfl, ?_⟩
    cases e1 : Txt.isascii x with
    | false =>
      rw [e1] at ad
      have e : numOk (TL.tl x) = false := by
        cases z : numOk (TL.tl x) with
        | false => rfl
        | true =>
          obtain ⟨a, b, _⟩ := numOk_iff.mp z
          rw [digB_all.mpr a, List.isEmpty_eq_false_iff.mpr b] at ad
          cases ad
      rw [e] at q
      exact iteT q
    | true =>
      refine iteF ⟨_, rfl, ⟨_, rfl⟩, x, rfl, rfl, trivial, _, rfl, ?_⟩
      cases e2 : Txt.isdigit x with
      | false =>
        rw [e1, e2] at ad
        have e : numOk (TL.tl x) = false := by
          cases z : numOk (TL.tl x) with
          | false => rfl
          | true =>
            obtain ⟨a, b, _⟩ := numOk_iff.mp z
            rw [digB_all.mpr a, List.isEmpty_eq_false_iff.mpr b] at ad
            cases ad
        rw [e] at q
        exact iteT q
      | true =>
        rw [e1, e2] at ad
        have a1 : digB (TL.tl x) = true := by cases z : digB (TL.tl x) with
          | true => rfl
          | false => rw [z] at ad; cases ad
        have a2 : (TL.tl x).isEmpty = false := by cases z : (TL.tl x).isEmpty with
          | false => rfl
          | true => rw [a1, z] at ad; cases ad
        refine iteF ⟨_, rfl, _, rfl, hl, _, _, rfl, rfl, _, rfl, ?_⟩
        by_cases c : (x.length : Int) > 200
        · rw [decide_eq_true c]
          have e : numOk (TL.tl x) = false := by
            cases z : numOk (TL.tl x) with
            | false => rfl
            | true => have := (numOk_iff.mp z).2.2.1; omega
          rw [e] at q
          exact iteT q
        · rw [decide_eq_false c]
          refine iteF ?_
          cases et : TL.tl x with
          | nil => rw [et] at a2; cases a2
          | cons c0 r =>
            have at0 : atI (TL.tl x) 0 = some c0 := atI_nat (j := 0) (show (TL.tl x)[0]? = some c0 by rw [et]; rfl)
            refine ⟨_, rfl, x, 0, c0, rfl, rfl, hl, at0, rfl, _, rfl, ?_⟩
            have e48 : (V.str ⟨#[c0]⟩ = V.str ("0" : Str)) ↔ c0 = 48 := by
              constructor
              · intro z
                have z1 : (⟨#[c0]⟩ : Str) = "0" := by injection z
                have z2 := congrArg TL.tl z1
                have z3 : TL.tl ("0" : Str) = [48] := by decide +kernel
                rw [z3] at z2
                exact (List.cons.inj (show [c0] = [48] from z2)).1
              · rintro rfl
                exact congrArg V.str (TL.ext_tl (show TL.tl (⟨#[48]⟩ : Str) = TL.tl ("0" : Str) by decide +kernel))
            have e49 : (V.str x = V.str ("1" : Str)) ↔ TL.tl x = [49] := by
              have z3 : TL.tl ("1" : Str) = [49] := by decide +kernel
              constructor
              · intro z
                have z1 : x = "1" := by injection z
                rw [z1]
                exact z3
              · intro z
                exact congrArg V.str (TL.ext_tl (z.trans z3.symm))
            have l200 : (TL.tl x).length ≤ 200 := by omega
            by_cases c1 : c0 = 48
            · rw [decide_eq_true (e48.mpr c1)]
              have e : numOk (TL.tl x) = false := by
                cases z : numOk (TL.tl x) with
                | false => rfl
                | true => exact absurd (by rw [et, c1]; rfl) (numOk_iff.mp z).2.2.2.1
              rw [e] at q
              exact iteF q
            · rw [decide_eq_false fun z => c1 (e48.mp z)]
              refine iteT ⟨_, rfl, rfl, ?_⟩
              have e : numOk (TL.tl x) = !decide (V.str x = V.str ("1" : Str)) := by
                by_cases c2 : TL.tl x = [49]
                · rw [decide_eq_true (e49.mpr c2), c2]
                  rfl
                · rw [decide_eq_false fun z => c2 (e49.mp z)]
                  exact numOk_iff.mpr ⟨digB_all.mp a1, List.isEmpty_eq_false_iff.mp a2, l200, by rw [et]; exact fun z => c1 (Option.some.inj z), c2⟩
              rw [e] at q
              exact q
end

section
variable {P : Program} {w : World} {K : PySem.W.Frag} {mg : Str → Option Value} {base : Heap} {c fI : Nat → Addr} {qn : Nat → Str} {cB : Addr}
open NumText (digitsVal AllDigits)
def spReadX (c : Nat → Addr) : Sp := fun vs H Q E => ∃ (x : Str), vs = [.str x] ∧ x.length ≤ 10000 ∧ Small (TL.tl x) ∧ (∀ ks, rText (TL.tl x) = some ks → ∀ p H', H p = none → Same H H' → H' p = some (.lst (ks.map V.int)) → Q (.ref p) H') ∧ (rText (TL.tl x) = none → ∀ H', Same H H' → Wish E (c 4) (.str x) H')
theorem ok_readlist {f : Addr} {fd : FuncData} (F : Fun K "read_list" "read_list" s_readlist f fd) (B : Bi mg) (Z : Errs P K mg c fI qn cB) (D_isnumber : Df P w K mg base 1 "is_number" ["digits"] spIsNum) : FnOk P w K mg base (L2N.CX P w) 2 f fd ["text"] (spReadX c) := by
  refine okN F sc_readlist (fun vs H Q E h => ?_) (fun cdv A outer s H vs Q E hr h => ?_)
  · obtain ⟨x, rfl, _⟩ := h
    rfl
  · obtain ⟨x, rfl, hx, sm, q, er⟩ := h
    refine ⟨_, (pss_cons (ps_if (pt_cmpR op_eq (pv 0) pe_str (nomark _))
 (pss_one (ps_ret (pe_lst pa_nil)))
 pss_nil)
 (pss_cons (ps_set (i := 1) sc_readlist.nd rfl (Or.inl rfl) (pe_lst pa_nil))
 (pss_cons (ps_for ownsN rfl (pi_list (pe_split (pv 0) pe_str)) (pg_name (i := 2) sc_readlist.nd rfl (Or.inl rfl))
 (pss_cons (ps_asg (pe_partition (pv 2) pe_str) (pg_tup rfl (pgs_cons (pg_name (i := 3) sc_readlist.nd rfl (Or.inl rfl)) (pgs_cons (pg_name (i := 4) sc_readlist.nd rfl (Or.inl rfl)) (pgs_cons (pg_name (i := 5) sc_readlist.nd rfl (Or.inl rfl)) pgs_nil)))))
 (pss_cons (ps_if (PW.pt (pw_or (pt_not (pt_val (pe_callD D_isnumber (hr.mono (by omega)) (by rfl) (pa_cons (pv 3) pa_nil)))) (pw_or1 (PW.pt (pw_and (pt_truth (pv 4) (by intro _; rfl)) (pw_and1 (pt_not (pt_val (pe_callD D_isnumber (hr.mono (by omega)) (by rfl) (pa_cons (pv 5) pa_nil))))))))))
 (pss_one (L2N.ps_raise rfl takesN (pmk_erN (Z.er 4 (by decide)).2 Z.g4 hr (by rfl) (pv 0))))
 pss_nil)
 (pss_cons (ps_set (i := 6) sc_readlist.nd rfl (Or.inl rfl) (pe_callTy (T := "int") call_int_str (by rfl) B.n_int (by decide +kernel) (pa_cons (pv 3) pa_nil)))
 (pss_cons (ps_if (PW.pt (pw_and (pt_truth (pv 1) (by intro _; rfl)) (pw_and1 (pt_cmpR op_eq (pe_ix (r := rIxL K) ix_list (pv 1) (pe_un un_neg pe_int) (fun _ _ => rfl)) (pv 6) (nomark _)))))
 (pss_one (L2N.ps_raise rfl takesN (pmk_erN (Z.er 4 (by decide)).2 Z.g4 hr (by rfl) (pv 0))))
 pss_nil)
 (pss_one (ps_expr (pe_bm PySem.F.plainAttrs_list PySem.F.slot_list_extend PySem.F.type_list_extend mt_extend (pv 1) (pa_cons (pe_op op_rep (pe_lst (pa_cons (pv 6) pa_nil)) (pe_ifExp (pt_truth (pv 4) (by intro _; rfl)) (pe_callTy (T := "int") call_int_str (by rfl) B.n_int (by decide +kernel) (pa_cons (pv 5) pa_nil)) pe_int)) pa_nil)))))))))
 (pss_one (ps_ret (pv 1)))))), ?_⟩
    have lim : sizeLine = 16777216 := sizeLine_eq
    have zn : TL.tl ("none" : Str) = [110, 111, 110, 101] := by decide +kernel
    refine ⟨_, rfl, rfl, _, rfl, ite2 (fun c => ?_) (fun c => ?_)⟩
    · have e : x = "none" := by have := of_decide_eq_true c; injection this
      have hr0 : rText (TL.tl x) = some [] := by
        rw [e, zn]
        unfold rText
        rw [if_pos rfl]
      exact ⟨z0L, fun p hp => q [] hr0 p _ hp (same_new hp) upd_same⟩
    · have ne : TL.tl x ≠ [110, 111, 110, 101] := fun z => c (decide_eq_true (congrArg V.str (TL.ext_tl (z.trans zn.symm))))
      obtain ⟨rt, ert⟩ : ∃ rt, rt = rText (TL.tl x) := ⟨_, rfl⟩
      have hr0 : rAll [] (TL.spl [44, 32] 0 [] (TL.tl x)) = rt := by
        rw [ert]
        unfold rText
        rw [if_neg ne]
      rw [← ert] at q er
      clear ert
      obtain ⟨ps, eps⟩ : ∃ ps, ps = Txt.split x ", " := ⟨_, rfl⟩
      have tps : ps.map TL.tl = TL.spl [44, 32] 0 [] (TL.tl x) := by rw [eps]; exact split_sep x
      have lps : ps.length ≤ 10001 := by
        have a := spl_len [44, 32] 0 [] (TL.tl x)
        rw [← tps, List.length_map, ← TL.len_tl] at a
        omega
      unfold Small at sm
      rw [← tps] at sm hr0
      refine ⟨z0L, fun d hd => ?_⟩
      refine ⟨_, rfl, ⟨_, rfl⟩, x, ", ", rfl, rfl, by decide +kernel, by omega, fun p hp => ?_⟩
      rw [← eps]
      have ned : p ≠ d := fun z => by rw [z, upd_same] at hp; cases hp
      have nd0 : H p = none := (same_new hd).free hp
      refine ⟨p, rfl, ⟨_, SqL.of upd_same⟩, for_list (K := K) (a := p) (xs := ps.map V.str) (fun i σ H' => ∃ F y2 y3 y4 y5 y6, σ = [some (.str x), some (.ref d), y2, y3, y4, y5, y6] ∧ Same H H' ∧ H' p = some (.lst (ps.map V.str)) ∧ H' d = some (.lst (F.map V.int)) ∧ F.length ≤ 1000 * i ∧ rAll F ((ps.map TL.tl).drop i) = rt)
        ⟨[], none, none, none, none, none, rfl, (same_new hd).trans (same_new hp), upd_same, by rw [upd_ne ned.symm]; exact upd_same, Nat.zero_le _, hr0⟩ (fun i σ H' _ h => by obtain ⟨_, _, _, _, _, _, _, _, g, _⟩ := h; exact SqL.of g) ?_ ?_⟩
      · rintro i v σ H1 hi ⟨F, y2, y3, y4, y5, y6, rfl, s1, gp, gd, lF, eF⟩
        obtain ⟨y, hy, rfl⟩ := str_at hi
        have il : i < ps.length := (List.getElem?_eq_some_iff.mp hy).1
        have dr : (ps.map TL.tl).drop i = TL.tl y :: (ps.map TL.tl).drop (i + 1) := by
          have lt : i < (ps.map TL.tl).length := by rw [List.length_map]; exact il
          rw [List.drop_eq_getElem_cons lt, List.getElem_map]
          obtain ⟨_, e⟩ := List.getElem?_eq_some_iff.mp hy
          rw [e]
        rw [dr] at eF
        have eF0 : (match rStep F (TL.tl y) with | none => none | some F' => rAll F' ((ps.map TL.tl).drop (i + 1))) = rt := eF
        have ly : y.length ≤ x.length := by
          have a := spl_mem [44, 32] 0 [] (TL.tl x) (TL.tl y) (by rw [← tps]; exact List.mem_map.mpr ⟨y, List.mem_of_getElem? hy, rfl⟩)
          rw [TL.len_tl, TL.len_tl]
          simpa using a
        obtain ⟨D, M, N, ep, lD0, lN0, mk⟩ := part_any y
        have lD : D.length ≤ sizeLine := by omega
        have lN : N.length ≤ sizeLine := by omega
        refine ⟨_, rfl, ⟨_, rfl⟩, y, "^", rfl, rfl, by decide +kernel, by omega, fun t ht => ?_⟩
        rw [ep]
        refine ⟨t, _, rfl, .inl (.inl upd_same), rfl, _, _, rfl, _, _, rfl, _, _, rfl, rfl, ?_⟩
        have s2 : Same H1 (upd H1 t (.tup [.str D, .str M, .str N])) := same_new ht
        refine ⟨_, rfl, D, rfl, lD, _, rfl, ?_⟩
        -- an unreadable part
        have bad : rPart (TL.tl y) = none → rt = none := fun z => by
          rw [← eF0]
          unfold rStep
          rw [z]
        cases okD : numOk (TL.tl D) with
        | false =>
          refine iteT ⟨_, rfl, er (bad ?_) _ (s1.trans s2)⟩
          rcases mk with ⟨_, z⟩ | ⟨_, z⟩
          · rw [z, okD]; rfl
          · rw [z, okD]; rfl
        | true =>
        refine iteF ?_
        have io := int_ok okD
        have gd2 : ∀ {t' : Addr} {o : HO}, H1 t' = none → (upd H1 t' o) d = some (.lst (F.map V.int)) := fun h => same_new h _ _ gd
        have gdt := gd2 (o := .tup [.str D, .str M, .str N]) ht
        obtain ⟨n, en⟩ : ∃ n, n = digitsVal (TL.tl D) := ⟨_, rfl⟩
        -- the same number again
        have again : ∀ k, rPart (TL.tl y) = some (n, k) → F.getLast? = some (n : Int) → rt = none := fun k z z2 => by
          rw [← eF0]
          unfold rStep
          rw [z]
          show (match (if F.getLast? = some (n : Int) then none else some (F ++ List.replicate k (n : Int))) with | none => none | some F' => rAll F' ((ps.map TL.tl).drop (i + 1))) = none
          rw [if_pos z2]
        have lastF : F ≠ [] → ∃ z, F.getLast? = some z ∧ (F.map V.int).getLast? = some (.int z) := fun h => by
          obtain ⟨z, ez⟩ : ∃ z, F.getLast? = some z := ⟨F.getLast h, List.getLast?_eq_some_getLast h⟩
          refine ⟨z, ez, ?_⟩
          rw [List.getLast?_map, ez]
          rfl
        have next : ∀ k, rPart (TL.tl y) = some (n, k) → F.getLast? ≠ some (n : Int) → rAll (F ++ List.replicate k (n : Int)) ((ps.map TL.tl).drop (i + 1)) = rt := fun k z z2 => by
          rw [← eF0]
          unfold rStep
          rw [z]
          show _ = (match (if F.getLast? = some (n : Int) then none else some (F ++ List.replicate k (n : Int))) with | none => none | some F' => rAll F' ((ps.map TL.tl).drop (i + 1)))
          rw [if_neg z2]
        have fin : ∀ (kk : Nat) (H2 H3 : Hp) (l r : Addr) (v3 v4 v5 v6 : Option V), rPart (TL.tl y) = some (n, kk) → F.getLast? ≠ some (n : Int) → Same H1 H2 → H2 d = some (.lst (F.map V.int)) → H2 l = none → (upd H2 l (.lst [V.int (n : Int)])) r = none → H3 = upd (upd H2 l (.lst [V.int (n : Int)])) r (.lst (List.replicate kk [V.int (n : Int)]).flatten) →
            ∃ l b xs zs, V.ref d = .ref l ∧ [V.ref r] = [V.ref b] ∧ H3 l = some (.lst xs) ∧ H3 b = some (.lst zs) ∧ xs.length + zs.length ≤ sizeLine ∧ ∃ F' y2 y3 y4 y5 y6, [some (.str x), some (.ref d), some (.str y), v3, v4, v5, v6] = [some (V.str x), some (V.ref d), y2, y3, y4, y5, y6] ∧ Same H (upd H3 l (.lst (xs ++ zs))) ∧ (upd H3 l (.lst (xs ++ zs))) p = some (.lst (ps.map V.str)) ∧ (upd H3 l (.lst (xs ++ zs))) d = some (.lst (F'.map V.int)) ∧ F'.length ≤ 1000 * (i + 1) ∧ rAll F' ((ps.map TL.tl).drop (i + 1)) = rt := fun kk H2 H3 l r v3 v4 v5 v6 rp last s12 g2 hl hr' e3 => by
          have k1000 : kk ≤ 1000 := sm (TL.tl y) (List.mem_map.mpr ⟨y, List.mem_of_getElem? hy, rfl⟩) n kk rp
          have gd3 : H3 d = some (.lst (F.map V.int)) := by rw [e3]; exact same_new hr' _ _ (same_new hl _ _ g2)
          have gp3 : H3 p = some (.lst (ps.map V.str)) := by rw [e3]; exact same_new hr' _ _ (same_new hl _ _ (s12 _ _ gp))
          have s3 : Same H H3 := by rw [e3]; exact ((s1.trans s12).trans (same_new hl)).trans (same_new hr')
          have gr : H3 r = some (.lst ((List.replicate kk (n : Int)).map V.int)) := by rw [e3, upd_same, rep_one, List.map_replicate]
          refine ⟨d, r, _, _, rfl, rfl, gd3, gr, ?_, F ++ List.replicate kk (n : Int), _, _, _, _, _, rfl, fun b o e => ?_, ?_, ?_, ?_, next kk rp last⟩
          · rw [List.length_map, List.length_map, List.length_replicate]
            omega
          · rw [upd_ne (ne_of_none e hd)]
            exact s3 _ _ e
          · rw [upd_ne ned]
            exact gp3
          · rw [upd_same, List.map_append]
          · rw [List.length_append, List.length_replicate]
            omega
        have w1 : 1 ≤ sizeLine := by omega
        rcases mk with ⟨lM, rp0⟩ | ⟨lM, rp0⟩
        · have tr : M.length ≤ sizeLine ∧ false = ((M.length : Int) != 0) := ⟨by omega, by rw [lM]; rfl⟩
          have rp : rPart (TL.tl y) = some (n, 1) := by rw [rp0, okD, en]; rfl
          refine ⟨_, rfl, false, tr, iteF (iteF ?_)⟩
          refine ⟨_, rfl, D, _, rfl, io.1, io.2, ?_⟩
          rw [← en]
          refine ⟨_, rfl, !(F.map V.int).isEmpty, .inl ⟨_, SqL.of gdt, rfl⟩, ?_⟩
          by_cases cF : F = []
          · have e0 : (!(F.map V.int).isEmpty) = false := by rw [cF]; rfl
            rw [e0]
            refine iteF (iteF ?_)
            refine ⟨_, rfl, .inl ⟨rfl, _, SqL.of gdt⟩, _, rfl, w1, fun l hl => ?_⟩
            refine ⟨_, rfl, false, tr, iteF ⟨_, 1, _, rfl, rfl, upd_same, by decide, by decide, Nat.le_of_lt (small1000 (show 1 * 1 ≤ 1000 by decide)), fun r hr' => ?_⟩⟩
            exact fin 1 _ _ l r _ _ _ _ rp (by rw [cF]; exact fun z => (nomatch z)) s2 gdt hl hr' rfl
          · have e1 : (!(F.map V.int).isEmpty) = true := by
              cases F with
              | nil => exact absurd rfl cF
              | cons _ _ => rfl
            rw [e1]
            obtain ⟨z, ez, ez2⟩ := lastF cF
            refine iteT ⟨_, rfl, 1, rfl, d, _, -1, .int z, rfl, rfl, SqL.of gdt, atI_lst _ _ ez2, _, rfl, rfl, _, rfl, ?_⟩
            by_cases zn2 : z = (n : Int)
            · rw [decide_eq_true (congrArg V.int zn2)]
              exact iteT ⟨_, rfl, er (again 1 rp (by rw [ez, zn2])) _ (s1.trans s2)⟩
            · rw [decide_eq_false (fun e => zn2 (by injection e))]
              refine iteF ?_
              refine ⟨_, rfl, .inl ⟨rfl, _, SqL.of gdt⟩, _, rfl, w1, fun l hl => ?_⟩
              refine ⟨_, rfl, false, tr, iteF ⟨_, 1, _, rfl, rfl, upd_same, by decide, by decide, Nat.le_of_lt (small1000 (show 1 * 1 ≤ 1000 by decide)), fun r hr' => ?_⟩⟩
              exact fin 1 _ _ l r _ _ _ _ rp (by rw [ez]; exact fun e => zn2 (Option.some.inj e)) s2 gdt hl hr' rfl
        · have tr : M.length ≤ sizeLine ∧ true = ((M.length : Int) != 0) := ⟨by omega, by rw [lM]; rfl⟩
          refine ⟨_, rfl, true, tr, iteT ?_⟩
          refine ⟨_, rfl, N, rfl, lN, _, rfl, ?_⟩
          cases okN' : numOk (TL.tl N) with
          | false =>
            refine iteT ⟨_, rfl, er (bad ?_) _ (s1.trans s2)⟩
            rw [rp0, okD, okN']
            rfl
          | true =>
          refine iteF ?_
          have iN := int_ok okN'
          have rp : rPart (TL.tl y) = some (n, digitsVal (TL.tl N)) := by rw [rp0, okD, okN', en]; rfl
          have k1000 := sm (TL.tl y) (List.mem_map.mpr ⟨y, List.mem_of_getElem? hy, rfl⟩) n _ rp
          refine ⟨_, rfl, D, _, rfl, io.1, io.2, ?_⟩
          rw [← en]
          refine ⟨_, rfl, !(F.map V.int).isEmpty, .inl ⟨_, SqL.of gdt, rfl⟩, ?_⟩
          by_cases cF : F = []
          · have e0 : (!(F.map V.int).isEmpty) = false := by rw [cF]; rfl
            rw [e0]
            refine iteF (iteF ?_)
            refine ⟨_, rfl, .inl ⟨rfl, _, SqL.of gdt⟩, _, rfl, w1, fun l hl => ?_⟩
            refine ⟨_, rfl, true, tr, iteT ⟨_, rfl, N, _, rfl, iN.1, iN.2, ?_⟩⟩
            refine ⟨_, ((digitsVal (TL.tl N) : Nat) : Int), _, rfl, rfl, upd_same, by omega, by omega, ?_, fun r hr' => ?_⟩
            · show 1 * (((digitsVal (TL.tl N) : Nat) : Int)).toNat ≤ sizeLine
              omega
            · exact fin _ _ _ l r _ _ _ _ rp (by rw [cF]; exact fun z => (nomatch z)) s2 gdt hl hr' rfl
          · have e1 : (!(F.map V.int).isEmpty) = true := by
              cases F with
              | nil => exact absurd rfl cF
              | cons _ _ => rfl
            rw [e1]
            obtain ⟨z, ez, ez2⟩ := lastF cF
            refine iteT ⟨_, rfl, 1, rfl, d, _, -1, .int z, rfl, rfl, SqL.of gdt, atI_lst _ _ ez2, _, rfl, rfl, _, rfl, ?_⟩
            by_cases zn2 : z = (n : Int)
            · rw [decide_eq_true (congrArg V.int zn2)]
              exact iteT ⟨_, rfl, er (again _ rp (by rw [ez, zn2])) _ (s1.trans s2)⟩
            · rw [decide_eq_false (fun e => zn2 (by injection e))]
              refine iteF ?_
              refine ⟨_, rfl, .inl ⟨rfl, _, SqL.of gdt⟩, _, rfl, w1, fun l hl => ?_⟩
              refine ⟨_, rfl, true, tr, iteT ⟨_, rfl, N, _, rfl, iN.1, iN.2, ?_⟩⟩
              refine ⟨_, ((digitsVal (TL.tl N) : Nat) : Int), _, rfl, rfl, upd_same, by omega, by omega, ?_, fun r hr' => ?_⟩
              · show 1 * (((digitsVal (TL.tl N) : Nat) : Int)).toNat ≤ sizeLine
                omega
              · exact fin _ _ _ l r _ _ _ _ rp (by rw [ez]; exact fun e => zn2 (Option.some.inj e)) s2 gdt hl hr' rfl
      · rintro σ H1 ⟨F, y2, y3, y4, y5, y6, rfl, s1, gp, gd, lF, eF⟩
        rw [List.length_map] at eF
        rw [List.drop_of_length_le (by rw [List.length_map]; exact Nat.le_refl _)] at eF
        exact ⟨_, rfl, q F eF.symm d _ hd s1 gd⟩
def spReadT : Sp := fun vs H Q _ => ∃ (x : Str) (ks : List Int), vs = [.str x] ∧ x.length ≤ 10000 ∧ Small (TL.tl x) ∧ rText (TL.tl x) = some ks ∧ ∀ p H', H p = none → Same H H' → H' p = some (.lst (ks.map V.int)) → Q (.ref p) H'
theorem ok_readcalm {f : Addr} {fd : FuncData} (G : FnOk P w K mg base (L2N.CX P w) 2 f fd ["text"] (spReadX c)) : FnOk P w K mg base CX0 2 f fd ["text"] spReadT :=
  fnok_mono (calmly G) fun vs H Q E h => by
    obtain ⟨x, ks, e, l, sm, r, q⟩ := h
    exact ⟨x, e, l, sm, fun ls e2 => by rw [r] at e2; cases e2; exact q, fun e2 => by rw [r] at e2; cases e2⟩
end

end Sq

set_option Elab.async false
set_option linter.all false
set_option maxRecDepth 100000
set_option maxHeartbeats 4000000
set_option exponentiation.threshold 2000
namespace Sq
open PySem PySem.Spec PyProof.Rows L2
open NumText (digitsVal AllDigits)
def Low7 (l : List Nat) : Prop := ∀ c ∈ l, c < 128
theorem strOk_asc {x : Str} (h : Low7 (TL.tl x)) : PyData.canLay0 (.str x) = true := by
  show PyData.strOk x = true
  unfold PyData.strOk
  rw [all_tl, List.all_eq_true]
  exact fun c hc => decide_eq_true (by have := h c hc; omega)
theorem dp_strs {K : PySem.W.Frag} {H : Hp} : ∀ (xs : List Str), DpAll K H (xs.map V.str) (xs.map PyData.str)
  | [] => .nil
  | x :: r => .cons (.str x) (dp_strs r)
theorem sh_strs : ∀ (xs : List Str), (∀ x ∈ xs, Low7 (TL.tl x)) → SeqAt.shaped (.list (xs.map PyData.str)) = true := fun xs h => by
  have key : ∀ (xs : List Str), (∀ x ∈ xs, Low7 (TL.tl x)) → PyData.canLayAll0 (xs.map PyData.str) = true ∧ PyData.depthAll (xs.map PyData.str) ≤ 0 := fun xs => by
    induction xs with
    | nil => exact fun _ => ⟨rfl, Nat.le_refl _⟩
    | cons x r ih =>
      intro h
      obtain ⟨a, b⟩ := ih fun y hy => h y (List.mem_cons_of_mem _ hy)
      refine ⟨?_, Nat.max_le.mpr ⟨Nat.zero_le _, b⟩⟩
      show (PyData.canLay0 (.str x) && PyData.canLayAll0 (r.map PyData.str)) = true
      rw [strOk_asc (h x List.mem_cons_self), a]
      rfl
  obtain ⟨a, b⟩ := key xs h
  exact shaped_il a (Nat.le_trans (Nat.add_le_add_right b 1) (by decide))
theorem digs : TL.tl ("0123456789" : Str) = [48, 49, 50, 51, 52, 53, 54, 55, 56, 57] := by decide +kernel
theorem in_digs (c : Nat) : decide (c ∈ ("0123456789" : Str).cps.toList) = isDig c := by
  show decide (c ∈ TL.tl ("0123456789" : Str)) = _
  rw [digs]
  unfold isDig
  by_cases h : 48 ≤ c ∧ c ≤ 57
  · rw [decide_eq_true h.1, decide_eq_true h.2, decide_eq_true]
    · rfl
    · simp
      omega
  · rw [decide_eq_false]
    · by_cases h1 : 48 ≤ c
      · rw [decide_eq_true h1, decide_eq_false (fun z => h ⟨h1, z⟩)]
        rfl
      · rw [decide_eq_false h1]
        rfl
    · simp
      omega
section
variable {P : Program} {w : World} {K : PySem.W.Frag} {mg : Str → Option Value} {base : Heap} {c fI : Nat → Addr} {qn : Nat → Str} {cB : Addr}
def numV (l : List Nat) : V := if numOk l = true then .int ((digitsVal l : Nat) : Int) else .non
def spNumber : Sp := fun vs H Q _ => ∃ y : Str, vs = [.str y, .int 2] ∧ y.length ≤ 100000 ∧ Low7 (TL.tl y) ∧ ∀ H', Same H H' → Q (numV (TL.tl y)) H'
theorem ok_lawnumber {f : Addr} {fd : FuncData} (F : Fun K "_law_number" "_law_number" s_lawnumber f fd) (B : Bi mg) : FnOk P w K mg base CX0 1 f fd ["word", "least"] spNumber := by
  refine F.ok sc_lawnumber (fun vs H Q E h => ?_) (fun cdv A outer s H vs Q E hr h => ?_)
  · obtain ⟨y, rfl, _⟩ := h
    rfl
  · obtain ⟨y, rfl, hl, asc, q⟩ := h
    refine ⟨_, (pss_cons (ps_if (PW.pt (pw_or (pt_not (pt_chain op_le op_le pe_int (pe_callB (id := "len") call_len_str (by rfl) B.n_len (by decide +kernel) (pa_cons (pv 0) pa_nil)) pe_int)) (pw_or (pt_cmpR (op_neD hr.units) (pe_lc (own := [("sign", 2)]) (g := gName 2) rfl sc_lawnumber.nd (pi_str (pv 0)) (blkOk_by (own := [("sign", 2)]) (N := ["word", "least", "sign"]) (sc := defScope s_lawnumber) (by decide +kernel)) (fun _ _ _ _ _ => (pg_name (i := 2) sc_lawnumber.nd rfl (Or.inl rfl))) (fun _ _ _ _ _ => pts_one (pt_cmpR op_notIn_sign (pv 2) pe_str rfl)) (fun _ _ _ _ _ => (pv 2))) (pe_lst pa_nil) (nomark _)) (pw_or1 (pt_cmpR op_eq (pe_ix ix_str (pv 0) pe_int (fun _ _ => rfl)) pe_str (nomark _))))))
 (pss_one (ps_ret pe_non))
 pss_nil)
 (pss_one (ps_ret (pe_ifExp (pt_cmpR op_ge (pe_callTy (T := "int") call_int_str (by rfl) B.n_int (by decide +kernel) (pa_cons (pv 0) pa_nil)) (pv 1) (nomark _)) (pe_callTy (T := "int") call_int_str (by rfl) B.n_int (by decide +kernel) (pa_cons (pv 0) pa_nil)) pe_non)))), ?_⟩
    have lim : sizeLine = 16777216 := sizeLine_eq
    have hlen : y.length = (TL.tl y).length := TL.len_tl y
    have no : ∀ {H' : Hp}, Same H H' → numOk (TL.tl y) = false → Q .non H' := fun s2 e => by
      have := q _ s2
      unfold numV at this
      rw [if_neg (by rw [e]; decide)] at this
      exact this
    have l1 : ¬ 1 ≤ y.length → numOk (TL.tl y) = false := fun z => by
      cases e : numOk (TL.tl y) with
      | false => rfl
      | true => exact absurd (List.length_eq_zero_iff.mp (by omega)) (numOk_iff.mp e).2.1
    have l2 : ¬ y.length ≤ 200 → numOk (TL.tl y) = false := fun z => by
      cases e : numOk (TL.tl y) with
      | false => rfl
      | true => have := (numOk_iff.mp e).2.2.1; omega
    refine ⟨_, rfl, y, rfl, by omega, _, _, rfl, rfl, ?_⟩
    refine ⟨_, rfl, ite2 (fun c1 => ⟨_, _, rfl, rfl, _, rfl, ?_⟩) (fun c1 => ⟨_, rfl, iteT (iteT (no (Same.refl _) (l1 fun z => c1 (decide_eq_true (by omega)))))⟩)⟩
    by_cases c2 : y.length ≤ 200
    · rw [decide_eq_true (show (y.length : Int) ≤ 200 by omega)]
      refine iteF ?_
      refine ⟨_, rfl, y, rfl, fun D hD => lc_it walk_str (fun i Hc => Same H Hc ∧ Hc D = some (.lst (((((TL.tl y).take i).filter fun c => !isDig c).map fun c => (⟨#[c]⟩ : Str)).map V.str))) ⟨same_new hD, upd_same⟩ (fun _ _ _ _ => trivial) ?_ ?_⟩
      · rintro i v Hc H2 hi ⟨sm, hcD⟩ ⟨rfl, ch, ech, rfl⟩
        have ech' : (TL.tl y)[i]? = some ch := by
          show y.cps.toList[i]? = _
          rw [Array.getElem?_toList]
          exact ech
        have tk : (TL.tl y).take (i + 1) = (TL.tl y).take i ++ [ch] := by rw [List.take_add_one, ech']; rfl
        have il : i < (TL.tl y).length := (List.getElem?_eq_some_iff.mp ech').1
        refine ⟨rfl, _, rfl, ch, "0123456789", rfl, rfl, _, rfl, ?_⟩
        rw [in_digs]
        cases ed : isDig ch with
        | true =>
          refine iteF ⟨sm, ?_⟩
          rw [tk, List.filter_append, show [ch].filter (fun c => !isDig c) = [] by rw [List.filter_cons, ed]; rfl, List.append_nil]
          exact hcD
        | false =>
          refine iteT ⟨_, rfl, _, hcD, ?_, fun b o e => ?_, ?_⟩
          · rw [List.length_map, List.length_map]
            have a := List.length_filter_le (fun c => !isDig c) ((TL.tl y).take i)
            rw [List.length_take] at a
            omega
          · rw [upd_ne (ne_of_none e hD)]
            exact sm _ _ e
          · rw [upd_same, tk, List.filter_append, show [ch].filter (fun c => !isDig c) = [ch] by rw [List.filter_cons, ed]; rfl, List.map_append, List.map_append]
            rfl
      · rintro Hc ⟨sm, hcD⟩
        have e0 : (TL.tl y).take y.cps.size = TL.tl y := List.take_of_length_le (by rw [← hlen]; exact Nat.le_refl _)
        rw [e0] at hcD
        obtain ⟨ss, ess⟩ : ∃ ss, ss = (TL.tl y).filter fun c => !isDig c := ⟨_, rfl⟩
        rw [← ess] at hcD
        have ass : ∀ x ∈ ss.map fun c => (⟨#[c]⟩ : Str), Low7 (TL.tl x) := fun x hx => by
          obtain ⟨c, hc, rfl⟩ := List.mem_map.mp hx
          intro d hd
          have : d = c := List.mem_singleton.mp (show d ∈ [c] from hd)
          rw [this]
          rw [ess] at hc
          exact asc c (List.mem_filter.mp hc).1
        refine ⟨Nat.zero_le _, fun t ht => ⟨.list ((ss.map fun c => (⟨#[c]⟩ : Str)).map PyData.str), .list [], .lst (SqL.of (same_new ht _ _ hcD)) (dp_strs _), .lst (SqL.of upd_same) .nil, sh_strs _ ass, rfl, _, rfl, ?_⟩⟩
        have s2 := sm.trans (same_new (o := .lst []) ht)
        cases ss with
        | cons c0 cr =>
          have bad : numOk (TL.tl y) = false := by
            cases e : numOk (TL.tl y) with
            | false => rfl
            | true =>
              have hc0 : c0 ∈ (TL.tl y).filter fun c => !isDig c := by rw [← ess]; exact List.mem_cons_self
              obtain ⟨m1, m2⟩ := List.mem_filter.mp hc0
              have d := (numOk_iff.mp e).1 c0 m1
              unfold isDig at m2
              rw [decide_eq_true d.1, decide_eq_true d.2] at m2
              cases m2
          exact iteT (iteT (no s2 bad))
        | nil =>
          have ad : AllDigits (TL.tl y) := fun c hc => by
            cases e : isDig c with
            | true =>
              unfold isDig at e
              rw [Bool.and_eq_true] at e
              exact ⟨of_decide_eq_true e.1, of_decide_eq_true e.2⟩
            | false =>
              have : c ∈ (TL.tl y).filter fun c => !isDig c := List.mem_filter.mpr ⟨hc, by rw [e]; rfl⟩
              rw [← ess] at this
              cases this
          refine iteF ?_
          have c1' : 1 ≤ y.length := by have := of_decide_eq_true c1; omega
          cases et : TL.tl y with
          | nil => rw [et] at hlen; simp at hlen; omega
          | cons c0 r =>
          have at0 : atI (TL.tl y) 0 = some c0 := atI_nat (j := 0) (show (TL.tl y)[0]? = some c0 by rw [et]; rfl)
          refine ⟨_, rfl, y, 0, c0, rfl, rfl, by omega, at0, rfl, _, rfl, ?_⟩
          have e48 : (V.str ⟨#[c0]⟩ = V.str ("0" : Str)) ↔ c0 = 48 := by
            constructor
            · intro z
              have z1 : (⟨#[c0]⟩ : Str) = "0" := by injection z
              have z2 := congrArg TL.tl z1
              have z3 : TL.tl ("0" : Str) = [48] := by decide +kernel
              rw [z3] at z2
              exact (List.cons.inj (show [c0] = [48] from z2)).1
            · rintro rfl
              exact congrArg V.str (TL.ext_tl (show TL.tl (⟨#[48]⟩ : Str) = TL.tl ("0" : Str) by decide +kernel))
          by_cases c48 : c0 = 48
          · rw [decide_eq_true (e48.mpr c48)]
            refine iteT (no s2 ?_)
            cases e : numOk (TL.tl y) with
            | false => rfl
            | true => exact absurd (by rw [et, c48]; rfl) (numOk_iff.mp e).2.2.2.1
          · rw [decide_eq_false fun z => c48 (e48.mp z)]
            refine iteF ?_
            have ne : TL.tl y ≠ [] := by rw [et]; exact fun z => nomatch z
            have hd : (TL.tl y).head? ≠ some 48 := by rw [et]; exact fun z => c48 (Option.some.inj z)
            obtain ⟨b1, b2⟩ := numL_back _ (TL.tl y) rfl ad ne hd
            have it := intText_digits ad ne (show y.length ≤ 4300 by omega)
            refine ⟨_, rfl, y, _, rfl, it, by omega, _, rfl, _, _, rfl, rfl, _, rfl, ?_⟩
            by_cases c2v : 2 ≤ digitsVal (TL.tl y)
            · rw [decide_eq_true (show (2 : Int) ≤ ((digitsVal (TL.tl y) : Nat) : Int) by omega)]
              refine iteT ⟨_, rfl, y, _, rfl, it, by omega, ?_⟩
              have := q _ s2
              unfold numV at this
              rw [if_pos (numOk_iff.mpr ⟨ad, ne, by omega, hd, fun z => by rw [z] at c2v; exact absurd c2v (by decide)⟩)] at this
              exact this
            · rw [decide_eq_false (show ¬ (2 : Int) ≤ ((digitsVal (TL.tl y) : Nat) : Int) by omega)]
              refine iteF (no s2 ?_)
              cases e : numOk (TL.tl y) with
              | false => rfl
              | true => exact absurd (numOk_back e).2 c2v
    · rw [decide_eq_false (fun z : (y.length : Int) ≤ 200 => c2 (by omega))]
      exact iteT (iteT (no (Same.refl _) (l2 c2)))
end
end Sq

set_option Elab.async false
set_option linter.all false
set_option maxRecDepth 100000
set_option maxHeartbeats 4000000
set_option exponentiation.threshold 2000
namespace Sq
open PySem PySem.Spec PyProof.Rows L2
open NumText (digitsVal AllDigits)
theorem spl_chars (S : List Nat) : ∀ (k : Nat) (acc l : List Nat), ∀ q ∈ TL.spl S k acc l, ∀ c ∈ q, c ∈ acc ∨ c ∈ l
  | k, acc, [] => by
    rw [TL.spl_nil]
    intro q hq c hc
    rw [List.mem_singleton.mp hq] at hc
    exact .inl hc
  | 0, acc, d :: r => by
    show ∀ q ∈ (if TL.pre S (d :: r) = true then acc :: TL.spl S (S.length - 1) [] r else TL.spl S 0 (acc ++ [d]) r), _
    split
    · intro q hq c hc
      rcases List.mem_cons.mp hq with z | z
      · rw [z] at hc
        exact .inl hc
      · rcases spl_chars S (S.length - 1) [] r q z c hc with h | h
        · cases h
        · exact .inr (List.mem_cons_of_mem _ h)
    · intro q hq c hc
      rcases spl_chars S 0 (acc ++ [d]) r q hq c hc with h | h
      · rcases List.mem_append.mp h with h | h
        · exact .inl h
        · rw [List.mem_singleton.mp h]
          exact .inr List.mem_cons_self
      · exact .inr (List.mem_cons_of_mem _ h)
  | k + 1, acc, d :: r => by
    intro q hq c hc
    rcases spl_chars S k acc r q hq c hc with h | h
    · exact .inl h
    · exact .inr (List.mem_cons_of_mem _ h)
theorem split_hat (y : Str) : (Txt.split y "^").map TL.tl = TL.spl [94] 0 [] (TL.tl y) := by
  have e := TL.split_spl y "^" (by rw [signs_hat]; simp) (TL.kind_ok (by decide +kernel))
  rw [signs_hat] at e
  exact e
theorem numV_ok {l : List Nat} (h : numOk l = true) : numV l = .int ((digitsVal l : Nat) : Int) := if_pos h
theorem numV_no {l : List Nat} (h : numOk l = false) : numV l = .non := if_neg (by rw [h]; decide)
section
variable {P : Program} {w : World} {K : PySem.W.Frag} {mg : Str → Option Value} {base : Heap}
def spDue : Sp := fun vs H Q _ => ∃ x : Str, vs = [.str x] ∧ x.length ≤ 4000 ∧ Low7 (TL.tl x) ∧ Small (TL.tl x) ∧
  (∀ ks, rText (TL.tl x) = some ks → ∀ t d H', Same H H' → H' t = some (.lst [.ref d]) → H' d = some (.lst (ks.map V.int)) → Q (.ref t) H') ∧ (rText (TL.tl x) = none → ∀ t H', Same H H' → H' t = some (.lst []) → Q (.ref t) H')
theorem ok_lawdue {f : Addr} {fd : FuncData} (F : Fun K "_law_due" "_law_due" s_lawdue f fd) (B : Bi mg) (D_lawnumber : Df P w K mg base 1 "_law_number" ["word", "least"] spNumber) : FnOk P w K mg base CX0 2 f fd ["written"] spDue := by
  refine F.ok sc_lawdue (fun vs H Q E h => ?_) (fun cdv A outer s H vs Q E hr h => ?_)
  · obtain ⟨x, rfl, _⟩ := h
    rfl
  · obtain ⟨x, rfl, hx, low, sm, q1, q0⟩ := h
    refine ⟨_, (pss_cons (ps_if (pt_cmpR op_eq (pv 0) pe_str (nomark _))
 (pss_one (ps_ret (pe_lst (pa_cons (pe_lst pa_nil) pa_nil))))
 pss_nil)
 (pss_cons (ps_set (i := 1) sc_lawdue.nd rfl (Or.inl rfl) (pe_lst pa_nil))
 (pss_cons (ps_for PassesOwn.never rfl (pi_list (pe_split (pv 0) pe_str)) (pg_name (i := 2) sc_lawdue.nd rfl (Or.inl rfl))
 (pss_cons (ps_set (i := 3) sc_lawdue.nd rfl (Or.inl rfl) (pe_split (pv 2) pe_str))
 (pss_cons (ps_par (i := 4) (j := 5) (by rfl) sc_lawdue.nd rfl rfl (by decide) rfl rfl (pa_cons (pe_callD D_lawnumber (hr.mono (by omega)) (by rfl) (pa_cons (pe_ix (r := rIxL K) ix_list (pv 3) pe_int (fun _ _ => rfl)) (pa_cons pe_int pa_nil))) (pa_cons pe_int pa_nil)) (by rfl))
 (pss_cons (ps_if (pt_cmpR op_gt (pe_callB (id := "len") (r := rLenK K) call_lenK (by rfl) B.n_len (by decide +kernel) (pa_cons (pv 3) pa_nil)) pe_int (nomark _))
 (pss_one (ps_set (i := 5) sc_lawdue.nd rfl (Or.inl rfl) (pe_callD D_lawnumber (hr.mono (by omega)) (by rfl) (pa_cons (pe_ix (r := rIxL K) ix_list (pv 3) pe_int (fun _ _ => rfl)) (pa_cons pe_int pa_nil)))))
 pss_nil)
 (pss_cons (ps_if (PW.pt (pw_or (pt_cmpR op_isN (pv 4) pe_non (nomark _)) (pw_or (pt_cmpR op_isN (pv 5) pe_non (nomark _)) (pw_or (pt_cmpR op_gt (pe_callB (id := "len") (r := rLenK K) call_lenK (by rfl) B.n_len (by decide +kernel) (pa_cons (pv 3) pa_nil)) pe_int (nomark _)) (pw_or1 (pt_cmpR (op_eqD hr.units) (pe_slice sl_list (pv 1) (po_some (pe_un un_neg pe_int)) po_none) (pe_lst (pa_cons (pv 4) pa_nil)) (nomark _)))))))
 (pss_one (ps_ret (pe_lst pa_nil)))
 pss_nil)
 (pss_one (ps_set (i := 1) sc_lawdue.nd rfl (Or.inl rfl) (pe_op op_cat (pv 1) (pe_op op_rep (pe_lst (pa_cons (pv 4) pa_nil)) (pv 5))))))))))
 (pss_one (ps_ret (pe_lst (pa_cons (pv 1) pa_nil))))))), ?_⟩
    have lim : sizeLine = 16777216 := sizeLine_eq
    have w1 : 1 ≤ sizeLine := by omega
    have zn : TL.tl ("none" : Str) = [110, 111, 110, 101] := by decide +kernel
    refine ⟨_, rfl, rfl, _, rfl, ite2 (fun c => ?_) (fun c => ?_)⟩
    · have e : x = "none" := by have := of_decide_eq_true c; injection this
      have hr0 : rText (TL.tl x) = some [] := by
        rw [e, zn]
        unfold rText
        rw [if_pos rfl]
      exact ⟨z0L, fun p hp => ⟨w1, fun t ht => q1 [] hr0 t p _ ((same_new hp).trans (same_new ht)) upd_same (same_new ht _ _ upd_same)⟩⟩
    · have ne : TL.tl x ≠ [110, 111, 110, 101] := fun z => c (decide_eq_true (congrArg V.str (TL.ext_tl (z.trans zn.symm))))
      obtain ⟨rt, ert⟩ : ∃ rt, rt = rText (TL.tl x) := ⟨_, rfl⟩
      have hr0 : rAll [] (TL.spl [44, 32] 0 [] (TL.tl x)) = rt := by
        rw [ert]
        unfold rText
        rw [if_neg ne]
      rw [← ert] at q1 q0
      clear ert
      obtain ⟨ps, eps⟩ : ∃ ps, ps = Txt.split x ", " := ⟨_, rfl⟩
      have tps : ps.map TL.tl = TL.spl [44, 32] 0 [] (TL.tl x) := by rw [eps]; exact split_sep x
      have lps : ps.length ≤ 4001 := by
        have a := spl_len [44, 32] 0 [] (TL.tl x)
        rw [← tps, List.length_map, ← TL.len_tl] at a
        omega
      unfold Small at sm
      rw [← tps] at sm hr0
      refine ⟨z0L, fun d0 hd0 => ?_⟩
      refine ⟨_, rfl, ⟨_, rfl⟩, x, ", ", rfl, rfl, by decide +kernel, by omega, fun p hp => ?_⟩
      rw [← eps]
      refine ⟨p, rfl, ⟨_, SqL.of upd_same⟩, for_list (K := K) (a := p) (xs := ps.map V.str) (fun i σ H' => ∃ d F y2 y3 y4 y5, σ = [some (.str x), some (.ref d), y2, y3, y4, y5] ∧ Same H H' ∧ H' p = some (.lst (ps.map V.str)) ∧ H' d = some (.lst (F.map V.int)) ∧ F.length ≤ 1000 * i ∧ rAll F ((ps.map TL.tl).drop i) = rt)
        ⟨d0, [], none, none, none, none, rfl, (same_new hd0).trans (same_new hp), upd_same, same_new hp _ _ upd_same, Nat.zero_le _, hr0⟩ (fun i σ H' _ h => by obtain ⟨_, _, _, _, _, _, _, _, g, _⟩ := h; exact SqL.of g) ?_ ?_⟩
      · rintro i v σ H1 hi ⟨d, F, y2, y3, y4, y5, rfl, s1, gp, gd, lF, eF⟩
        obtain ⟨y, hy, rfl⟩ := str_at hi
        have il : i < ps.length := (List.getElem?_eq_some_iff.mp hy).1
        have dr : (ps.map TL.tl).drop i = TL.tl y :: (ps.map TL.tl).drop (i + 1) := by
          have lt : i < (ps.map TL.tl).length := by rw [List.length_map]; exact il
          rw [List.drop_eq_getElem_cons lt, List.getElem_map]
          obtain ⟨_, e⟩ := List.getElem?_eq_some_iff.mp hy
          rw [e]
        rw [dr] at eF
        have eF0 : (match rStep F (TL.tl y) with | none => none | some F' => rAll F' ((ps.map TL.tl).drop (i + 1))) = rt := eF
        have memy : TL.tl y ∈ TL.spl [44, 32] 0 [] (TL.tl x) := by rw [← tps]; exact List.mem_map.mpr ⟨y, List.mem_of_getElem? hy, rfl⟩
        have ly : y.length ≤ 4000 := by
          have a := spl_mem [44, 32] 0 [] (TL.tl x) (TL.tl y) memy
          rw [← TL.len_tl, ← TL.len_tl] at a
          simp at a
          omega
        have lowy : Low7 (TL.tl y) := fun c hc => by
          rcases spl_chars _ _ _ _ _ memy c hc with h | h
          · cases h
          · exact low c h
        refine ⟨_, rfl, ⟨_, rfl⟩, y, "^", rfl, rfl, by decide +kernel, by omega, fun hh hhh => ?_⟩
        obtain ⟨hs, ehs⟩ : ∃ hs, hs = Txt.split y "^" := ⟨_, rfl⟩
        have ths : hs.map TL.tl = TL.spl [94] 0 [] (TL.tl y) := by rw [ehs]; exact split_hat y
        rw [← ehs]
        have piece : ∀ z ∈ hs, z.length ≤ 4000 ∧ Low7 (TL.tl z) := fun z hz => by
          have m : TL.tl z ∈ TL.spl [94] 0 [] (TL.tl y) := by rw [← ths]; exact List.mem_map.mpr ⟨z, hz, rfl⟩
          have a := spl_mem [94] 0 [] (TL.tl y) _ m
          rw [← TL.len_tl, ← TL.len_tl] at a
          refine ⟨by simp at a; omega, fun c hc => ?_⟩
          rcases spl_chars _ _ _ _ _ m c hc with h | h
          · cases h
          · exact lowy c h
        have lhs : hs.length ≤ 4001 := by
          have a := spl_len [94] 0 [] (TL.tl y)
          rw [← ths, List.length_map, ← TL.len_tl] at a
          omega
        have rp := rPart_spl (TL.tl y)
        rw [← ths] at rp
        have s2 : Same H1 (upd H1 hh (.lst (hs.map V.str))) := same_new hhh
        have gh : (upd H1 hh (.lst (hs.map V.str))) hh = some (.lst (hs.map V.str)) := upd_same
        generalize upd H1 hh (.lst (hs.map V.str)) = H2 at s2 gh ⊢
        cases hs with
        | nil =>
          exact absurd ths.symm (spl_ne [94] 0 [] (TL.tl y))
        | cons a hr' =>
        refine ⟨_, rfl, hh, _, 0, .str a, rfl, rfl, SqL.of gh, at_of (j := 0) rfl rfl, a, rfl, by have := (piece a List.mem_cons_self).1; omega, (piece a List.mem_cons_self).2, fun H3 s3 => ⟨_, _, rfl, ?_⟩⟩
        have gh3 := s3 _ _ gh
        obtain ⟨tv, etv⟩ : ∃ tv, tv = (match hr' with | [] => V.int 1 | b :: _ => numV (TL.tl b)) := ⟨_, rfl⟩
        refine tellNx (fun σ2 H4 => σ2 = [some (.str x), some (.ref d), some (.str y), some (.ref hh), some (numV (TL.tl a)), some tv] ∧ Same H3 H4) (fun N hN => ?_) (fun σ2 H4 h => ?_)
        · refine ⟨_, rfl, hh, _, rfl, .inl (SqL.of gh3), _, _, rfl, rfl, _, rfl, ?_⟩
          cases hr' with
          | nil => exact iteF (hN _ _ ⟨by rw [etv]; rfl, Same.refl _⟩)
          | cons b hr2 =>
            have lt : (1 : Int) < (((a :: b :: hr2).map V.str).length : Int) := by rw [List.length_map, List.length_cons, List.length_cons]; omega
            rw [decide_eq_true lt]
            refine iteT ⟨_, rfl, hh, _, 1, .str b, rfl, rfl, SqL.of gh3, at_of (j := 1) rfl rfl, b, rfl, by have := (piece b (by simp)).1; omega, (piece b (by simp)).2, fun H4 s4 => hN _ _ ⟨by rw [etv]; rfl, s4⟩⟩
        · obtain ⟨rfl, s4⟩ := h
          have s14 := (s2.trans s3).trans s4
          have s04 := s1.trans s14
          have gh4 := s4 _ _ gh3
          have gd4 := s14 _ _ gd
          have gp4 := s14 _ _ gp
          have bad : rPart (TL.tl y) = none → rt = none := fun z => by
            rw [← eF0]
            unfold rStep
            rw [z]
          have stop : rPart (TL.tl y) = none → ∀ G, Same H4 G → 0 ≤ sizeLine ∧ ∀ p, G p = none → Q (.ref p) (upd G p (.lst [])) := fun z G sG => ⟨z0L, fun t ht => q0 (bad z) t _ ((s04.trans sG).trans (same_new ht)) upd_same⟩
          have way : (numOk (TL.tl a) = false ∧ rPart (TL.tl y) = none) ∨ (numOk (TL.tl a) = true ∧ tv = .non ∧ rPart (TL.tl y) = none) ∨ (∃ k : Nat, numOk (TL.tl a) = true ∧ tv = .int (k : Int) ∧ ((2 < (a :: hr').length ∧ rPart (TL.tl y) = none) ∨ ((a :: hr').length ≤ 2 ∧ rPart (TL.tl y) = some (digitsVal (TL.tl a), k)))) := by
            cases oa : numOk (TL.tl a) with
            | false =>
              refine .inl ⟨rfl, ?_⟩
              rw [rp]
              cases hr' with
              | nil => show (if numOk (TL.tl a) = true then _ else none) = none; rw [oa, if_neg (by decide)]
              | cons b hr2 =>
                cases hr2 with
                | nil => show (if (numOk (TL.tl a) && numOk (TL.tl b)) = true then _ else none) = none; rw [oa, Bool.false_and, if_neg (by decide)]
                | cons c r => rfl
            | true =>
              refine .inr ?_
              cases hr' with
              | nil =>
                refine .inr ⟨1, rfl, etv, .inr ⟨by simp, ?_⟩⟩
                rw [rp]
                show (if numOk (TL.tl a) = true then some (digitsVal (TL.tl a), 1) else none) = _
                rw [oa, if_pos rfl]
              | cons b hr2 =>
                cases ob : numOk (TL.tl b) with
                | false =>
                  refine .inl ⟨rfl, by rw [etv]; exact numV_no ob, ?_⟩
                  rw [rp]
                  cases hr2 with
                  | nil => show (if (numOk (TL.tl a) && numOk (TL.tl b)) = true then _ else none) = none; rw [ob, Bool.and_false, if_neg (by decide)]
                  | cons c r => rfl
                | true =>
                  refine .inr ⟨digitsVal (TL.tl b), rfl, by rw [etv]; exact numV_ok ob, ?_⟩
                  cases hr2 with
                  | nil =>
                    refine .inr ⟨by simp, ?_⟩
                    rw [rp]
                    show (if (numOk (TL.tl a) && numOk (TL.tl b)) = true then some (digitsVal (TL.tl a), digitsVal (TL.tl b)) else none) = _
                    rw [oa, ob]
                    rfl
                  | cons c r => exact .inl ⟨by simp only [List.length_cons]; omega, by rw [rp]; rfl⟩
          refine ⟨_, rfl, rfl, _, rfl, ?_⟩
          rcases way with ⟨oa, rn⟩ | ⟨oa, et, rn⟩ | ⟨k, oa, et, way⟩
          · rw [numV_no oa, decide_eq_true rfl]
            exact iteT (stop rn H4 (Same.refl _))
          · rw [numV_ok oa, decide_eq_false (fun z => nomatch z)]
            refine iteF ⟨_, rfl, rfl, _, rfl, ?_⟩
            rw [et, decide_eq_true rfl]
            exact iteT (stop rn H4 (Same.refl _))
          · rw [numV_ok oa, decide_eq_false (fun z => nomatch z)]
            refine iteF ⟨_, rfl, rfl, _, rfl, ?_⟩
            rw [et, decide_eq_false (fun z => nomatch z)]
            refine iteF ⟨_, rfl, hh, _, rfl, .inl (SqL.of gh4), _, _, rfl, rfl, _, rfl, ?_⟩
            rcases way with ⟨l3, rn⟩ | ⟨l2, rs⟩
            · rw [decide_eq_true (show (2 : Int) < (((a :: hr').map V.str).length : Int) by rw [List.length_map]; omega)]
              exact iteT (stop rn H4 (Same.refl _))
            · rw [decide_eq_false (show ¬ (2 : Int) < (((a :: hr').map V.str).length : Int) by rw [List.length_map]; omega)]
              refine iteF ?_
              obtain ⟨n, en⟩ : ∃ n, n = digitsVal (TL.tl a) := ⟨_, rfl⟩
              rw [← en] at rs ⊢
              have k1000 : k ≤ 1000 := sm (TL.tl y) (List.mem_map.mpr ⟨y, List.mem_of_getElem? hy, rfl⟩) n k rs
              refine ⟨_, rfl, 1, rfl, _, rfl, noPart ⟨d, _, rfl, SqL.of gd4, fun u hu => ?_⟩⟩
              rw [cut_last (α := Nat), show (F.map V.int).getLast?.toList = F.getLast?.toList.map V.int by rw [List.getLast?_map]; cases F.getLast? <;> rfl]
              refine ⟨_, rfl, w1, fun u2 hu2 => ⟨.list (F.getLast?.toList.map PyData.int), .list ([(n : Int)].map PyData.int), .lst (SqL.of (same_new hu2 _ _ upd_same)) (dp_ints _), .lst (SqL.of upd_same) (dp_ints [(n : Int)]), shaped_ints _, shaped_ints _, _, rfl, ?_⟩⟩
              rw [eqv_ints]
              have sG := (same_new (o := .lst (F.getLast?.toList.map V.int)) hu).trans (same_new (o := .lst [.int (n : Int)]) hu2)
              by_cases last : F.getLast? = some (n : Int)
              · rw [decide_eq_true (by rw [last]; rfl)]
                refine iteT ?_
                have rn : rt = none := by
                  rw [← eF0]
                  unfold rStep
                  rw [rs]
                  show (match (if F.getLast? = some (n : Int) then none else some (F ++ List.replicate k (n : Int))) with | none => none | some F' => rAll F' ((ps.map TL.tl).drop (i + 1))) = none
                  rw [if_pos last]
                exact ⟨z0L, fun t ht => q0 rn t _ ((s04.trans sG).trans (same_new ht)) upd_same⟩
              · rw [decide_eq_false (fun z => last (by
                  cases e : F.getLast? with
                  | none => rw [e] at z; cases z
                  | some w => rw [e] at z; exact congrArg some (List.cons.inj z).1))]
                refine iteF ?_
                have next : rAll (F ++ List.replicate k (n : Int)) ((ps.map TL.tl).drop (i + 1)) = rt := by
                  rw [← eF0]
                  unfold rStep
                  rw [rs]
                  show _ = (match (if F.getLast? = some (n : Int) then none else some (F ++ List.replicate k (n : Int))) with | none => none | some F' => rAll F' ((ps.map TL.tl).drop (i + 1)))
                  rw [if_neg last]
                have gd6 := sG _ _ gd4
                have gp6 := sG _ _ gp4
                have s06 := s04.trans sG
                generalize upd (upd H4 u (.lst (F.getLast?.toList.map V.int))) u2 (.lst [.int (n : Int)]) = H6 at gd6 gp6 s06 ⊢
                refine ⟨_, rfl, _, rfl, w1, fun l hl => ⟨_, rfl, l, (k : Int), _, rfl, rfl, upd_same, by omega, by omega, ?_, fun r hr' => ?_⟩⟩
                · show 1 * ((k : Int)).toNat ≤ sizeLine
                  omega
                have gr : (upd (upd H6 l (.lst [.int (n : Int)])) r (.lst (List.replicate ((k : Int)).toNat [V.int (n : Int)]).flatten)) r = some (.lst ((List.replicate k (n : Int)).map V.int)) := by rw [upd_same, Int.toNat_natCast, rep_one, List.map_replicate]
                have s7 := (same_new (o := .lst [.int (n : Int)]) hl).trans (same_new (o := .lst (List.replicate ((k : Int)).toNat [V.int (n : Int)]).flatten) hr')
                refine ⟨d, r, _, _, rfl, rfl, s7 _ _ gd6, gr, ?_, fun e he => ?_⟩
                · rw [List.length_map, List.length_map, List.length_replicate]
                  omega
                have s8 := s7.trans (same_new (o := .lst (F.map V.int ++ (List.replicate k (n : Int)).map V.int)) he)
                refine ⟨e, F ++ List.replicate k (n : Int), _, _, _, _, rfl, s06.trans s8, s8 _ _ gp6, by rw [upd_same, List.map_append], ?_, next⟩
                rw [List.length_append, List.length_replicate]
                omega
      · rintro σ H1 ⟨d, F, y2, y3, y4, y5, rfl, s1, gp, gd, lF, eF⟩
        rw [List.length_map] at eF
        rw [List.drop_of_length_le (by rw [List.length_map]; exact Nat.le_refl _)] at eF
        exact ⟨_, rfl, w1, fun t ht => q1 F eF.symm t d _ (s1.trans (same_new ht)) upd_same (same_new ht _ _ gd)⟩
end
end Sq

set_option Elab.async false
set_option linter.all false
set_option maxRecDepth 100000
set_option maxHeartbeats 2000000
/-! Methods called by keywords: one value by place, the rest by name. -/
namespace Sq
open PySem PySem.Spec PyProof.Rows L2
theorem kbn_mk1 {K : PySem.W.Frag} {x qual : Str} {st : Stmt} {f : Addr} {fd : FuncData} {ps : List Str} (F : Fun K x qual st f fd) (ks : List Str) (g : List Value → List Value → List Value) (gV : List V → List V → List V)
    (rel : ∀ {vs : List V} {us : List Value} {zs : List V} {ws : List Value}, Vals vs us → Vals zs ws → Vals (gV vs zs) (g us ws))
    (h : ∀ (kV doc pm : Value) (an : Option Addr) (cdv ct u : Value) (ws : List Value), ws.length = ks.length → bindArgs (PySem.W.fnOf x qual (defArgs st) (defBody st) (defScope st) .none kV doc pm an cdv ct) ⟨[u], ks.zip ws⟩ = pure (ps.zip (g [u] ws))) : KBn K fd ps 1 ks g gV := by
  obtain ⟨oc, od, kV, doc, pm, an, cdv, ct, osl, rfl, lk, hcd⟩ := F.ex
  refine ⟨fun s us ws X l1 l2 => ?_, rel⟩
  match us, l1 with
  | [u], _ => exact .of_eq (h kV doc pm an cdv ct u ws l2)
theorem vals_app : ∀ {vs : List V} {us : List Value} {zs : List V} {ws : List Value}, Vals vs us → Vals zs ws → Vals (vs ++ zs) (us ++ ws)
  | _, _, _, _, .nil, s => s
  | _, _, _, _, .cons a r, s => .cons a (vals_app r s)
end Sq

set_option Elab.async false
set_option linter.all false
set_option maxRecDepth 100000
set_option maxHeartbeats 2000000
/-! A def that may raise, called by keywords. -/
namespace Sq
open PySem PySem.Spec PyProof.Rows L2
def tKN (l : Nat) (gV : List V → List V → List V) (sp : Sp) (E : L2.St → XK) (tk : TA) : TE := fun σ H Q => tk σ H fun zs H1 => zs.length = l ∧ sp (gV [] zs) H1 Q (E σ)
section
variable {X : Cx} {k : Nat} {ps ks : List Str} {g : List Value → List Value → List Value} {gV : List V → List V → List V} {sp : Sp} {x : Str} {p pos : Pos} {kws : List Keyword} {tk : TA} {W : WX}
theorem pe_callNK (D : Dnk X.prog X.w X.K X.mg X.base k x ps ks g gV sp) (takes : L2N.Takes X W) (hr : Room k X.A) (hg : Gl X x) (hkw : PK X kws tk) (hall : (backToKw pos (keywordEach kws X.env)).all (·.1.isSome) = true := by rfl)
    (hks : (backToKw pos (keywordEach kws X.env)).filterMap (·.1) = ks := by rfl) (hdb : (x == ("__debug__" : Str)) = false := by decide)
    (hpl : ((backTo pos (starEach [] X.env)).any (·.1) || (backToKw pos (keywordEach kws X.env)).any (·.1.isNone)) = false := by rfl) :
    PE X (.Call (.Name x p) [] kws pos) (tKN ks.length gV sp (WE W) tk) := by
  obtain ⟨f, fd, F, hm, kp, hb⟩ := D.ex
  refine ⟨fun pins s σ H Q I h => ?_⟩
  refine wpAny_Call_Name_kw (ld_glob I hg hm ?_ hdb)
  refine PySem.W.callWith_KW0 (h₀ := X.base) I.ok.mod.kin kp hall (thn (hkw.run pos pins s σ H _ I h) fun ws s1 ⟨zs, H1, I1, rz, l2, q⟩ => ⟨I1.kIn, ?_⟩) hpl
  rw [hks]
  exact run_fnKS (us := []) (vs := []) F hr hb (L2N.passAt takes σ) I1 .nil rz rfl l2 q
end
end Sq

set_option Elab.async false
set_option linter.all false
set_option maxRecDepth 100000
set_option maxHeartbeats 4000000
set_option exponentiation.threshold 2000
namespace Sq
open PySem PySem.Spec PyProof.Rows L2
open NumText (digitsVal AllDigits)
section
variable {P : Program} {w : World} {K : PySem.W.Frag} {mg : Str → Option Value} {base : Heap} {c fI : Nat → Addr} {qn : Nat → Str} {cB : Addr}
def spTold : Sp := fun vs H Q _ => ∃ (x : Str) (b : Bool), vs = [.str x, .bl b] ∧ x.length ≤ 4000 ∧ Small (TL.tl x) ∧
  (∀ ks, rText (TL.tl x) = some ks → ∀ t p H', H p = none → Same H H' → H' t = some (.lst [.ref p]) → H' p = some (.lst (ks.map V.int)) → Q (.ref t) H') ∧
  (rText (TL.tl x) = none → ∀ t H', Same H H' → H' t = some (.tup [.bl true, .bl true, .bl false, .str x]) → Q (.ref t) H')
theorem ok_lawtold {f : Addr} {fd : FuncData} (F : Fun K "_law_told" "_law_told" s_lawtold f fd) (B : Bi mg) (Z : Errs P K mg c fI qn cB) (Z2 : Errs2 K c cB)
    (X_readlist : Dn P w K mg base 2 "read_list" ["text"] (spReadX c)) {g1 : List Value → List Value → List Value} (XK_readlist : Dnk P w K mg base 2 "read_list" ["text"] ["text"] g1 (fun us zs => us ++ zs) (spReadX c)) :
    FnOk P w K mg base CX0 4 f fd ["written", "by_name"] spTold := by
  refine F.ok sc_lawtold (fun vs H Q E h => ?_) (fun cdv A outer s H vs Q E hr h => ?_)
  · obtain ⟨x, b, rfl, _⟩ := h
    rfl
  · obtain ⟨x, b, rfl, hx, sm, q1, q0⟩ := h
    refine ⟨_, (pss_one (L2N.ps_try_as (i := 2) rfl rfl sc_lawtold.nd rfl rfl ⟨by rfl, by decide, .inl Z.g5⟩ takesN0 (fun W_ pn_ xe_ tk_ own_ => (pss_one (ps_ret (pe_lst (pa_cons (pe_ifExp (pt_val (pv 1)) (pe_callNK XK_readlist tk_ (hr.mono (by omega)) (by rfl) (pk_cons (pv 0) pk_nil)) (pe_callN X_readlist tk_ (hr.mono (by omega)) (by rfl) (pa_cons (pv 0) pa_nil))) pa_nil)))))
 (fun a_ oe_ cls_ d_ pn_ hz_ hf_ => (pss_cons (ps_set (i := 3) sc_lawtold.nd rfl (Or.inl rfl) (pe_callB (id := "isinstance") (call_isiST hz_ hf_) (by rfl) B.n_isinstance (by decide +kernel) (pa_cons (pv 2) (pa_cons (pe_tup (pa_cons (pe_glob (v := .ref _) (by rfl) Z.g2 rfl) (pa_cons (pe_glob (v := .ref _) (by rfl) Z.g0 rfl) (pa_cons (pe_glob (v := .ref _) (by rfl) Z.g1 rfl) (pa_cons (pe_glob (v := .ref _) (by rfl) Z.g3 rfl) pa_nil))))) pa_nil))))
 (pss_one (ps_ret (pe_tup (pa_cons (pe_callB (id := "isinstance") (call_isiS hz_ hf_) (by rfl) B.n_isinstance (by decide +kernel) (pa_cons (pv 2) (pa_cons (pe_glob (v := .ref _) (by rfl) Z.g4 rfl) pa_nil))) (pa_cons (pe_callB (id := "isinstance") (call_isiS hz_ hf_) (by rfl) B.n_isinstance (by decide +kernel) (pa_cons (pv 2) (pa_cons (pe_bltn (v := .ty "ValueError") (by rfl) B.n_ValueError (by decide +kernel) rfl) pa_nil))) (pa_cons (pv 3) (pa_cons (pe_sv hz_ hf_ (pv 2)) pa_nil))))))))))), ?_⟩
    have lim : sizeLine = 16777216 := sizeLine_eq
    have w1 : 1 ≤ sizeLine := by omega
    have w4 : 4 ≤ sizeLine := by omega
    have k2 := Z.is 4 2 (by decide) (by decide)
    have k0 := Z.is 4 0 (by decide) (by decide)
    have k1 := Z.is 4 1 (by decide) (by decide)
    have k3 := Z.is 4 3 (by decide) (by decide)
    have four4 : PySem.W.kitAny K (.ref (c 4)) [.ref (c 2), .ref (c 0), .ref (c 1), .ref (c 3)] = some false := by
      rw [decide_eq_false (by decide)] at k2 k0 k3 k1
      unfold PySem.W.kitAny
      rw [k2]
      show PySem.W.kitAny K (.ref (c 4)) [.ref (c 0), .ref (c 1), .ref (c 3)] = some false
      unfold PySem.W.kitAny
      rw [k0]
      show PySem.W.kitAny K (.ref (c 4)) [.ref (c 1), .ref (c 3)] = some false
      unfold PySem.W.kitAny
      rw [k1]
      show PySem.W.kitAny K (.ref (c 4)) [.ref (c 3)] = some false
      unfold PySem.W.kitAny
      rw [k3]
      rfl
    have T := Z.ex 4 (by decide)
    refine ⟨_, rfl, _, rfl, ?_⟩
    cases b with
    | true =>
      refine iteT ⟨_, rfl, rfl, x, rfl, by omega, sm, fun ks rt p H1 np s1 gp => ⟨w1, fun t ht => q1 ks rt t p _ np (s1.trans (same_new ht)) upd_same (same_new ht _ _ gp)⟩, fun rt H' s' d hd => ⟨true, Z2.ma 4 (by decide), fun _ p hp => ?_, fun z => (nomatch z)⟩⟩
      refine ⟨_, rfl, w4, fun tp htp => ⟨c 4, d, tp, .str x, [.ref (c 2), .ref (c 0), .ref (c 1), .ref (c 3)], [.ref (c 2), .ref (c 0), .ref (c 1), .ref (c 3)], false, rfl, rfl, rfl, upd_same, .cons (.own _) (.cons (.own _) (.cons (.own _) (.cons (.own _) .nil))), same_new htp _ _ upd_same, T, four4, ?_⟩⟩
      have hv : (upd (upd H' d (exd d [(("value" : Str), .str x)])) tp (.tup [.ref (c 2), .ref (c 0), .ref (c 1), .ref (c 3)])) d = some (exd d [(("value" : Str), .str x)]) := same_new htp _ _ upd_same
      refine ⟨_, rfl, c 4, d, .str x, _, _, _, rfl, rfl, rfl, .own _, hv, T, Z.is 4 4 (by decide) (by decide), _, rfl, c 4, d, .str x, _, _, _, rfl, rfl, rfl, .ty _, hv, T, Z.isV 4 (by decide), _, rfl, _, rfl, c 4, d, .str x, rfl, rfl, rfl, hv, Z.xf 4 (by decide), Z2.nv 4 (by decide), w4, fun r hr2 => ?_⟩
      have sr := (s'.trans (same_new hd)).trans (same_new (o := .tup [.ref (c 2), .ref (c 0), .ref (c 1), .ref (c 3)]) htp)
      exact q0 rt r _ (sr.trans (same_new hr2)) upd_same
    | false =>
      refine iteF ⟨_, rfl, x, rfl, by omega, sm, fun ks rt p H1 np s1 gp => ⟨w1, fun t ht => q1 ks rt t p _ np (s1.trans (same_new ht)) upd_same (same_new ht _ _ gp)⟩, fun rt H' s' d hd => ⟨true, Z2.ma 4 (by decide), fun _ p hp => ?_, fun z => (nomatch z)⟩⟩
      refine ⟨_, rfl, w4, fun tp htp => ⟨c 4, d, tp, .str x, [.ref (c 2), .ref (c 0), .ref (c 1), .ref (c 3)], [.ref (c 2), .ref (c 0), .ref (c 1), .ref (c 3)], false, rfl, rfl, rfl, upd_same, .cons (.own _) (.cons (.own _) (.cons (.own _) (.cons (.own _) .nil))), same_new htp _ _ upd_same, T, four4, ?_⟩⟩
      have hv : (upd (upd H' d (exd d [(("value" : Str), .str x)])) tp (.tup [.ref (c 2), .ref (c 0), .ref (c 1), .ref (c 3)])) d = some (exd d [(("value" : Str), .str x)]) := same_new htp _ _ upd_same
      refine ⟨_, rfl, c 4, d, .str x, _, _, _, rfl, rfl, rfl, .own _, hv, T, Z.is 4 4 (by decide) (by decide), _, rfl, c 4, d, .str x, _, _, _, rfl, rfl, rfl, .ty _, hv, T, Z.isV 4 (by decide), _, rfl, _, rfl, c 4, d, .str x, rfl, rfl, rfl, hv, Z.xf 4 (by decide), Z2.nv 4 (by decide), w4, fun r hr2 => ?_⟩
      have sr := (s'.trans (same_new hd)).trans (same_new (o := .tup [.ref (c 2), .ref (c 0), .ref (c 1), .ref (c 3)]) htp)
      exact q0 rt r _ (sr.trans (same_new hr2)) upd_same
end
end Sq

set_option Elab.async false
set_option linter.all false
set_option maxRecDepth 100000
set_option maxHeartbeats 4000000
set_option exponentiation.threshold 2000
namespace Sq
open PySem PySem.Spec PyProof.Rows L2
open NumText (digitsVal AllDigits)
theorem big_ints : ∀ (ks : List Int), (∀ k ∈ ks, 2 ≤ k ∧ k < 10 ^ 200) → PyData.showableAll (ks.map PyData.int) = true ∧ PyData.hasDictAll (ks.map PyData.int) = false ∧ PyData.depthAll (ks.map PyData.int) ≤ 0
  | [], _ => ⟨rfl, rfl, Nat.le_refl _⟩
  | k :: r, h => by
    obtain ⟨a, b, c⟩ := big_ints r fun x hx => h x (List.mem_cons_of_mem _ hx)
    have hk := h k List.mem_cons_self
    have lt : k.natAbs < 10 ^ 200 := by
      obtain ⟨n, rfl⟩ : ∃ n : Nat, k = (n : Int) := ⟨k.toNat, by omega⟩
      have := hk.2
      rw [show ((10 : Int) ^ 200) = ((10 ^ 200 : Nat) : Int) by rw [Int.natCast_pow]; rfl] at this
      exact Int.ofNat_lt.mp this
    have lg : k.natAbs.log2 < 665 := PySem.Flt.log2_lt_of (by decide) (Nat.lt_of_lt_of_le lt (by decide))
    refine ⟨?_, ?_, Nat.max_le.mpr ⟨Nat.zero_le _, c⟩⟩
    · show ((PyData.int k).showable && PyData.showableAll (r.map PyData.int)) = true
      rw [a, Bool.and_true]
      exact decide_eq_true (Nat.lt_trans lg (by decide))
    · show ((PyData.int k).hasDict || PyData.hasDictAll (r.map PyData.int)) = false
      rw [b]
      rfl
theorem shown_read {K : PySem.W.Frag} {H : Hp} {t d : Addr} {x : Str} {ks : List Int} (rt : rText (TL.tl x) = some ks) (sm : Small (TL.tl x)) (hl : x.length ≤ 4000) (gt : H t = some (.lst [.ref d])) (gd : H d = some (.lst (ks.map V.int))) : Shown K H (.ref t) (.list [.list (ks.map PyData.int)]) := by
  obtain ⟨f1, f2, f3⟩ := fit_read rt sm (by rw [← TL.len_tl]; exact hl)
  obtain ⟨a, b, c⟩ := big_ints ks f2
  refine ⟨.lst (SqL.of gt) (.cons (.lst (SqL.of gd) (dp_ints ks)) .nil), ?_, ?_, ?_, ?_⟩
  · show (PyData.showableAll (ks.map PyData.int) && true) = true
    rw [a]
    rfl
  · show (PyData.hasDictAll (ks.map PyData.int) || false) = false
    rw [b]
    rfl
  · show Nat.max (PyData.depthAll (ks.map PyData.int) + 1) 0 + 1 ≤ 40
    exact Nat.succ_le_succ (Nat.max_le.mpr ⟨by omega, by decide⟩)
  · refine Nat.le_trans (shown_list_len _) ?_
    show ((PyData.list (ks.map PyData.int)).shown.length + 2 + 0) + 2 ≤ sizeLine
    rw [sizeLine_eq]
    omega
section
variable {P : Program} {w : World} {K : PySem.W.Frag} {mg : Str → Option Value} {base : Heap}
def spRight : Sp := fun vs H Q _ => ∃ x : Str, vs = [.str x] ∧ x.length ≤ 4000 ∧ Low7 (TL.tl x) ∧ Small (TL.tl x) ∧ ∀ H', Same H H' → Q (.bl true) H'
theorem ok_lawright {f : Addr} {fd : FuncData} (F : Fun K "_law_right" "_law_right" s_lawright f fd) (B : Bi mg) (D_lawdue : Df P w K mg base 2 "_law_due" ["written"] spDue) (D_lawtold : Df P w K mg base 4 "_law_told" ["written", "by_name"] spTold) :
    FnG P w K mg base 5 f fd ["one"] spRight := by
  refine okG F sc_lawright (fun vs H Q E h => ?_) (fun cdv A outer s H vs Q E hr quiet h => ?_)
  · obtain ⟨x, rfl, _⟩ := h
    rfl
  · obtain ⟨x, rfl, hx, low, sm, q⟩ := h
    refine ⟨_, (pss_cons (ps_set (i := 1) sc_lawright.nd rfl (Or.inl rfl) (pe_callD D_lawdue (hr.mono (by omega)) (by rfl) (pa_cons (pv 0) pa_nil)))
 (pss_cons (ps_for PassesOwn.never rfl (pi_list (pe_lst (pa_cons pe_bl (pa_cons pe_bl pa_nil)))) (pg_name (i := 2) sc_lawright.nd rfl (Or.inl rfl))
 (pss_cons (ps_set (i := 3) sc_lawright.nd rfl (Or.inl rfl) (pe_callD D_lawtold (hr.mono (by omega)) (by rfl) (pa_cons (pv 0) (pa_cons (pv 2) pa_nil))))
 (pss_cons (ps_if (PW.pt (pw_or (PW.pt (pw_and (pt_cmpR (op_eqD hr.units) (pv 1) (pe_lst pa_nil) (nomark _)) (pw_and1 (pt_cmpR (op_neD hr.units) (pv 3) (pe_tup (pa_cons pe_bl (pa_cons pe_bl (pa_cons pe_bl (pa_cons (pv 0) pa_nil))))) (nomark _))))) (pw_or1 (PW.pt (pw_and (pt_cmpR (op_neD hr.units) (pv 1) (pe_lst pa_nil) (nomark _)) (pw_and1 (pt_cmpR op_ne (pe_callB (id := "repr") (call_reprV quiet hr.units) (by rfl) B.n_repr (by decide +kernel) (pa_cons (pv 3) pa_nil)) (pe_callB (id := "repr") (call_reprV quiet hr.units) (by rfl) B.n_repr (by decide +kernel) (pa_cons (pv 1) pa_nil)) (nomark _))))))))
 (pss_one (ps_ret pe_bl))
 pss_nil)
 (pss_one (ps_if (pt_cmpR (op_neD hr.units) (pv 1) (pe_lst pa_nil) (nomark _))
 (pss_one (ps_expr (pe_bm PySem.F.plainAttrs_list PySem.F.slot_list_append PySem.F.type_list_append mt_append (pe_ix (r := rIxL K) ix_list (pv 3) pe_int (fun _ _ => rfl)) (pa_cons pe_int pa_nil))))
 pss_nil)))))
 (pss_one (ps_ret (pe_or (pe_cmpR (op_eqD hr.units) (pv 1) (pe_lst pa_nil) (nomark _)) (pe_one (pe_cmpR op_eq (pe_callB (id := "repr") (call_reprV quiet hr.units) (by rfl) B.n_repr (by decide +kernel) (pa_cons (pe_callD D_lawtold (hr.mono (by omega)) (by rfl) (pa_cons (pv 0) (pa_cons pe_bl pa_nil))) pa_nil)) (pe_callB (id := "repr") (call_reprV quiet hr.units) (by rfl) B.n_repr (by decide +kernel) (pa_cons (pv 1) pa_nil)) (nomark _)))))))), ?_⟩
    have lim : sizeLine = 16777216 := sizeLine_eq
    have w1 : 1 ≤ sizeLine := by omega
    have w2 : 2 ≤ sizeLine := by omega
    have w4 : 4 ≤ sizeLine := by omega
    refine ⟨_, rfl, x, rfl, hx, low, sm, fun ks rt t d H1 s1 gt gd => ?_, fun rt t H1 s1 gt => ?_⟩
    · -- a list is due
      have shR : ∀ {H' : Hp}, Same H1 H' → Shown K H' (.ref t) (.list [.list (ks.map PyData.int)]) := fun s' => shown_read rt sm hx (s' _ _ gt) (s' _ _ gd)
      have neE : ∀ {H' : Hp}, Same H1 H' → ∀ u, H' u = none → ∃ dx dy, Dp K (upd H' u (.lst [])) (.ref t) dx ∧ Dp K (upd H' u (.lst [])) (.ref u) dy ∧ SeqAt.shaped dx = true ∧ SeqAt.shaped dy = true ∧ PyData.eqv dx dy = false := fun s' u hu =>
        ⟨.list (dRows [ks]), .list [], (.lst (SqL.of (same_new hu _ _ (s' _ _ gt))) (.cons (.lst (SqL.of (same_new hu _ _ (s' _ _ gd))) (dp_ints ks)) .nil)), .lst (SqL.of upd_same) .nil, shaped_rows [ks], rfl, rfl⟩
      refine ⟨w2, fun bl hbl => ⟨bl, rfl, ⟨_, SqL.of upd_same⟩, for_list (K := K) (a := bl) (xs := [V.bl false, V.bl true]) (fun i σ H' => Same H1 H' ∧ H' bl = some (.lst [.bl false, .bl true]) ∧ ∃ y2 y3, σ = [some (.str x), some (.ref t), y2, y3]) ⟨same_new hbl, upd_same, none, none, rfl⟩ (fun i σ H' _ h => SqL.of h.2.1) ?_ ?_⟩⟩
      · rintro i v σ H2 hi ⟨s2, gbl, y2, y3, rfl⟩
        obtain ⟨b, rfl⟩ : ∃ b, v = .bl b := by
          have i2 : i < 2 := (List.getElem?_eq_some_iff.mp hi).1
          have : i = 0 ∨ i = 1 := by omega
          rcases this with rfl | rfl <;> cases hi <;> exact ⟨_, rfl⟩
        refine ⟨_, rfl, _, rfl, x, b, rfl, hx, sm, fun ls rt2 t2 p2 H3 np2 s3 gt2 gp2 => ?_, fun z => by rw [rt] at z; cases z⟩
        rw [rt] at rt2
        cases rt2
        have s13 := s2.trans s3
        refine ⟨_, rfl, z0L, fun u hu => ?_⟩
        obtain ⟨dx, dy, h1, h2, h3, h4, h5⟩ := neE s13 u hu
        refine ⟨dx, dy, h1, h2, h3, h4, _, rfl, ?_⟩
        rw [h5]
        refine iteF ⟨_, rfl, z0L, fun u2 hu2 => ?_⟩
        have su := same_new (o := .lst []) hu
        obtain ⟨dx, dy, h1, h2, h3, h4, h5⟩ := neE (s13.trans su) u2 hu2
        refine ⟨dx, dy, h1, h2, h3, h4, _, rfl, ?_⟩
        rw [h5]
        have su2 := su.trans (same_new (o := .lst []) hu2)
        have s14 := s13.trans su2
        refine iteT ⟨_, rfl, .ref t2, _, rfl, shown_read rt sm hx (su2 _ _ gt2) (su2 _ _ gp2), _, rfl, .ref t, _, rfl, shR s14, rfl, _, rfl, ?_⟩
        rw [decide_eq_true rfl]
        refine iteF ⟨_, rfl, z0L, fun u3 hu3 => ?_⟩
        obtain ⟨dx, dy, h1, h2, h3, h4, h5⟩ := neE s14 u3 hu3
        refine ⟨dx, dy, h1, h2, h3, h4, _, rfl, ?_⟩
        rw [h5]
        have su3 := su2.trans (same_new (o := .lst []) hu3)
        have lk := (fit_read rt sm (by rw [← TL.len_tl]; exact hx)).2.2
        have np1 : H1 p2 = none := (s2.free np2)
        refine iteT ⟨_, rfl, t2, _, 0, .ref p2, rfl, rfl, SqL.of (su3 _ _ gt2), rfl, .inl ⟨rfl, _, SqL.of (su3 _ _ gp2)⟩, p2, _, _, rfl, rfl, su3 _ _ gp2, by rw [List.length_map]; omega, fun b o e => ?_, ?_, _, _, rfl⟩
        · rw [upd_ne (ne_of_none e np1)]
          exact su3 _ _ (s13 _ _ e)
        · have nb : bl ≠ p2 := fun z => by rw [z, np2] at gbl; cases gbl
          rw [upd_ne nb]
          exact su3 _ _ (s3 _ _ gbl)
      · rintro σ H2 ⟨s2, gbl, y2, y3, rfl⟩
        refine ⟨_, rfl, z0L, fun u hu => ?_⟩
        obtain ⟨dx, dy, h1, h2, h3, h4, h5⟩ := neE s2 u hu
        refine ⟨dx, dy, h1, h2, h3, h4, ?_⟩
        rw [h5]
        have su := same_new (o := .lst []) hu
        refine ⟨_, rfl, iteF ⟨_, rfl, x, false, rfl, hx, sm, fun ls rt2 t2 p2 H3 np2 s3 gt2 gp2 => ?_, fun z => by rw [rt] at z; cases z⟩⟩
        rw [rt] at rt2
        cases rt2
        refine ⟨.ref t2, _, rfl, shown_read rt sm hx gt2 gp2, _, rfl, .ref t, _, rfl, shR ((s2.trans su).trans s3), rfl, ?_⟩
        rw [decide_eq_true rfl]
        exact q _ (s1.trans ((s2.trans su).trans s3))
    · -- an error is due
      have eqE : ∀ {H' : Hp}, Same H1 H' → ∀ u, H' u = none → ∃ dx dy, Dp K (upd H' u (.lst [])) (.ref t) dx ∧ Dp K (upd H' u (.lst [])) (.ref u) dy ∧ SeqAt.shaped dx = true ∧ SeqAt.shaped dy = true ∧ PyData.eqv dx dy = true := fun s' u hu =>
        ⟨.list [], .list [], .lst (SqL.of (same_new hu _ _ (s' _ _ gt))) .nil, .lst (SqL.of upd_same) .nil, rfl, rfl, rfl⟩
      have shT : SeqAt.shaped (.tuple [.bool true, .bool true, .bool false, .str x]) = true := shaped_il (by
        show (PyData.canLay0 (.bool true) && (PyData.canLay0 (.bool true) && (PyData.canLay0 (.bool false) && (PyData.canLay0 (.str x) && true)))) = true
        rw [strOk_asc low]
        rfl) (by show Nat.max 0 (Nat.max 0 (Nat.max 0 (Nat.max 0 0))) + 1 ≤ 64; decide)
      refine ⟨w2, fun bl hbl => ⟨bl, rfl, ⟨_, SqL.of upd_same⟩, for_list (K := K) (a := bl) (xs := [V.bl false, V.bl true]) (fun i σ H' => Same H1 H' ∧ H' bl = some (.lst [.bl false, .bl true]) ∧ ∃ y2 y3, σ = [some (.str x), some (.ref t), y2, y3]) ⟨same_new hbl, upd_same, none, none, rfl⟩ (fun i σ H' _ h => SqL.of h.2.1) ?_ ?_⟩⟩
      · rintro i v σ H2 hi ⟨s2, gbl, y2, y3, rfl⟩
        obtain ⟨b, rfl⟩ : ∃ b, v = .bl b := by
          have i2 : i < 2 := (List.getElem?_eq_some_iff.mp hi).1
          have : i = 0 ∨ i = 1 := by omega
          rcases this with rfl | rfl <;> cases hi <;> exact ⟨_, rfl⟩
        refine ⟨_, rfl, _, rfl, x, b, rfl, hx, sm, fun ls z => (by rw [rt] at z; cases z), fun _ t2 H3 s3 gt2 => ?_⟩
        have s13 := s2.trans s3
        refine ⟨_, rfl, z0L, fun u hu => ?_⟩
        obtain ⟨dx, dy, h1, h2, h3, h4, h5⟩ := eqE s13 u hu
        refine ⟨dx, dy, h1, h2, h3, h4, _, rfl, ?_⟩
        rw [h5]
        have su := same_new (o := .lst []) hu
        refine iteT ⟨_, rfl, _, rfl, w4, fun u2 hu2 => ?_⟩
        have su2 := su.trans (same_new (o := .tup [.bl true, .bl true, .bl false, .str x]) hu2)
        refine ⟨.tuple [.bool true, .bool true, .bool false, .str x], .tuple [.bool true, .bool true, .bool false, .str x], .tup (.inl (.inl (su2 _ _ gt2))) (.cons (.bl _) (.cons (.bl _) (.cons (.bl _) (.cons (.str _) .nil)))), .tup (.inl (.inl upd_same)) (.cons (.bl _) (.cons (.bl _) (.cons (.bl _) (.cons (.str _) .nil)))), shT, shT, _, rfl, ?_⟩
        rw [PySem.SeqAt.eqv_refl _ (PySem.SeqAt.canLay_of_shaped shT)]
        have s14 := s13.trans su2
        refine iteF ⟨_, rfl, z0L, fun u3 hu3 => ?_⟩
        obtain ⟨dx, dy, h1, h2, h3, h4, h5⟩ := eqE s14 u3 hu3
        refine ⟨dx, dy, h1, h2, h3, h4, _, rfl, ?_⟩
        rw [h5]
        have s15 := s14.trans (same_new (o := .lst []) hu3)
        refine iteF (iteF ⟨_, rfl, z0L, fun u4 hu4 => ?_⟩)
        obtain ⟨dx, dy, h1, h2, h3, h4, h5⟩ := eqE s15 u4 hu4
        refine ⟨dx, dy, h1, h2, h3, h4, _, rfl, ?_⟩
        rw [h5]
        have s16 := s15.trans (same_new (o := .lst []) hu4)
        exact iteF ⟨s16, (same_new hu4 _ _ (same_new hu3 _ _ (su2 _ _ (s3 _ _ gbl)))), _, _, rfl⟩
      · rintro σ H2 ⟨s2, gbl, y2, y3, rfl⟩
        refine ⟨_, rfl, z0L, fun u hu => ?_⟩
        obtain ⟨dx, dy, h1, h2, h3, h4, h5⟩ := eqE s2 u hu
        refine ⟨dx, dy, h1, h2, h3, h4, ?_⟩
        rw [h5]
        exact ⟨_, rfl, iteT (q _ (s1.trans (s2.trans (same_new hu))))⟩
end
end Sq

set_option Elab.async false
set_option linter.all false
set_option maxHeartbeats 1000000
/-! The least run with more, from the last replacement to the first; reaches of parts; how great they grow. -/
namespace Sq
open L2
theorem least_step {k R : Int} (hk : 2 ≤ k) (hR : 1 ≤ R) : (R + 1 - (if R + 1 < k - 1 then R + 1 else k - 1)) * k + (if R + 1 < k - 1 then R + 1 else k - 1) = rw1 k R + 1 := by
  unfold rw1
  by_cases c : R + 1 < k - 1
  · rw [if_pos c, if_pos (show k > R + 1 by omega), Int.sub_self, Int.zero_mul, Int.zero_add]
  · rw [if_neg c]
    by_cases d : k > R + 1
    · rw [if_pos d, show k = R + 2 by omega, show R + 1 - (R + 2 - 1) = 0 by omega, Int.zero_mul]
      omega
    · rw [if_neg d, show R + 1 - (k - 1) = R + 3 - k - 1 by omega, Int.sub_mul (R + 3 - k) 1 k, Int.one_mul]
      omega
def lback (ks : List Int) (v : Int) : Int := ks.foldl (fun R k => rw1 k R) v
theorem lback_rev (ks : List Int) (v : Int) : lback ks.reverse v = rch ks v := by
  unfold lback
  rw [List.foldl_reverse]
  rfl
theorem rch_app (ks ls : List Int) (v : Int) : rch (ks ++ ls) v = rch ks (rch ls v) := by
  unfold rch
  rw [List.foldr_append]
theorem lback_pos : ∀ (ks : List Int) (v : Int), (∀ k ∈ ks, 2 ≤ k) → 1 ≤ v → 1 ≤ lback ks v
  | [], _, _, h => h
  | k :: ks, v, h, hv => lback_pos ks (rw1 k v) (fun x hx => h x (List.mem_cons_of_mem _ hx)) (rch_pos [k] v (fun x hx => by rw [List.mem_singleton.mp hx]; exact h k (List.mem_cons_self ..)) hv)
theorem rw1_grow {k R : Int} (hk : 2 ≤ k) (hR : 1 ≤ R) : rw1 k R + 3 ≤ (R + 3) * k := by
  have e : (R + 3) * 2 ≤ (R + 3) * k := Int.mul_le_mul_of_nonneg_left hk (by omega)
  unfold rw1
  by_cases d : k > R + 1
  · rw [if_pos d]
    omega
  · rw [if_neg d, Int.sub_mul]
    have : 2 * 2 ≤ k * k := Int.mul_le_mul hk hk (by decide) (by omega)
    omega
theorem rch_grow : ∀ (ks : List Int) (v B : Int), (∀ k ∈ ks, 2 ≤ k ∧ k ≤ B) → 1 ≤ v → rch ks v + 3 ≤ (v + 3) * B ^ ks.length
  | [], v, B, _, _ => by
    rw [show rch [] v = v from rfl, List.length_nil, Int.pow_zero]
    omega
  | k :: ks, v, B, h, hv => by
    have hk := h k (List.mem_cons_self ..)
    have ht : ∀ x ∈ ks, 2 ≤ x ∧ x ≤ B := fun x hx => h x (List.mem_cons_of_mem _ hx)
    have p := rch_pos ks v (fun x hx => (ht x hx).1) hv
    have ih := rch_grow ks v B ht hv
    have g := rw1_grow hk.1 p
    show rw1 k (rch ks v) + 3 ≤ (v + 3) * B ^ (ks.length + 1)
    rw [Int.pow_succ, ← Int.mul_assoc]
    have a : (rch ks v + 3) * k ≤ ((v + 3) * B ^ ks.length) * k := Int.mul_le_mul_of_nonneg_right ih (by omega)
    have b : ((v + 3) * B ^ ks.length) * k ≤ ((v + 3) * B ^ ks.length) * B := Int.mul_le_mul_of_nonneg_left hk.2 (by omega)
    omega
theorem cut_drop (xs : List V) (n : Nat) (h : n ≤ xs.length) : cutV xs (some (n : Int)) none = xs.drop n := by
  unfold cutV
  rw [HT.sIx_nat, HT.sIx_none, Nat.min_eq_left h]
  exact List.take_of_length_le (by rw [List.length_drop]; exact Nat.le_refl _)
end Sq

set_option Elab.async false
set_option linter.all false
set_option maxRecDepth 100000
set_option maxHeartbeats 4000000
set_option exponentiation.threshold 2000
namespace Sq
open PySem PySem.Spec PyProof.Rows L2
open NumText (digitsVal AllDigits)
theorem digs_signs : signsV ("0123456789" : Str) = [48, 49, 50, 51, 52, 53, 54, 55, 56, 57].map fun c : Nat => V.str ⟨#[c]⟩ := by
  unfold signsV
  rw [digs]
theorem digs_in {c : Nat} (h : isDig c = true) : inV (.str ⟨#[c]⟩) (signsV ("0123456789" : Str)) = true := by
  unfold isDig at h
  rw [Bool.and_eq_true] at h
  have h1 := of_decide_eq_true h.1
  have h2 := of_decide_eq_true h.2
  rw [digs_signs]
  have : c = 48 ∨ c = 49 ∨ c = 50 ∨ c = 51 ∨ c = 52 ∨ c = 53 ∨ c = 54 ∨ c = 55 ∨ c = 56 ∨ c = 57 := by omega
  rcases this with e | e | e | e | e | e | e | e | e | e <;> subst e <;> decide +kernel
theorem digs_empty {x : Str} (h : TL.tl x = []) : inV (.str x) (signsV ("0123456789" : Str)) = false := by
  have e : x = Str.empty := TL.ext_tl (h.trans (by decide +kernel))
  rw [e, digs_signs]
  decide +kernel
theorem cutS_one (z : Str) (j : Nat) : TL.tl (cutS z (some (j : Int)) (some ((j : Int) + 1))) = ((TL.tl z)[j]?).toList := by
  show ((z.cps.toList.drop (HT.sIx z.length 0 (some (j : Int)))).take (HT.sIx z.length z.length (some ((j : Int) + 1)) - HT.sIx z.length 0 (some (j : Int)))) = _
  have e : z.length = (TL.tl z).length := TL.len_tl z
  rw [show ((j : Int) + 1) = ((j + 1 : Nat) : Int) by omega, HT.sIx_nat, HT.sIx_nat]
  by_cases h : j < z.length
  · rw [Nat.min_eq_left (by omega), Nat.min_eq_left (by omega), show j + 1 - j = 1 by omega]
    have h' : j < (TL.tl z).length := by omega
    show ((TL.tl z).drop j).take 1 = _
    rw [List.drop_eq_getElem_cons h', List.getElem?_eq_getElem h']
    rfl
  · rw [List.getElem?_eq_none (by omega)]
    show ((TL.tl z).drop _).take _ = []
    rw [List.drop_of_length_le (by omega)]
    simp
theorem take_dpre {l : List Nat} {j : Nat} (h : ∀ c, l[j]? = some c → isDig c = false) : (dpre l).length ≤ j := by
  induction l generalizing j with
  | nil => exact Nat.zero_le _
  | cons x r ih =>
    show (List.takeWhile isDig (x :: r)).length ≤ j
    rw [List.takeWhile_cons]
    cases j with
    | zero =>
      rw [h x rfl]
      exact Nat.le_refl _
    | succ j =>
      split
      · exact Nat.succ_le_succ (ih fun c e => h c e)
      · exact Nat.zero_le _
section
variable {P : Program} {w : World} {K : PySem.W.Frag} {mg : Str → Option Value} {base : Heap}
def spSmall : Sp := fun vs H Q _ => ∃ x : Str, vs = [.str x] ∧ x.length ≤ 1000000 ∧ ∀ b H', Same H H' → (b = true → FewDig (TL.tl x)) → Q (.bl b) H'
theorem ok_lawsmall {f : Addr} {fd : FuncData} (F : Fun K "_law_small" "_law_small" s_lawsmall f fd) (B : Bi mg) : FnOk P w K mg base CX0 1 f fd ["written"] spSmall := by
  refine F.ok sc_lawsmall (fun vs H Q E h => ?_) (fun cdv A outer s H vs Q E hr h => ?_)
  · obtain ⟨x, rfl, _⟩ := h
    rfl
  · obtain ⟨x, rfl, hx, q⟩ := h
    refine ⟨_, (pss_cons (ps_for PassesOwn.never rfl (pi_list (pe_slice sl_list (pe_split (pv 0) pe_str) (po_some pe_int) po_none)) (pg_name (i := 1) sc_lawsmall.nd rfl (Or.inl rfl))
 (pss_cons (ps_set (i := 2) sc_lawsmall.nd rfl (Or.inl rfl) pe_str)
 (pss_cons (ps_while PassesOwn.never (pt_cmpR op_in_seq (pe_slice sl_str (pv 1) (po_some (pe_callB (id := "len") call_len_str (by rfl) B.n_len (by decide +kernel) (pa_cons (pv 2) pa_nil))) (po_some (pe_op op_add (pe_callB (id := "len") call_len_str (by rfl) B.n_len (by decide +kernel) (pa_cons (pv 2) pa_nil)) pe_int))) (pe_callTy (T := "list") (r := rListStr) (call_listStr rfl) (by rfl) B.n_list (by decide +kernel) (pa_cons pe_str pa_nil)) rfl)
 (pss_one (ps_set (i := 2) sc_lawsmall.nd rfl (Or.inl rfl) (pe_slice sl_str (pv 1) po_none (po_some (pe_op op_add (pe_callB (id := "len") call_len_str (by rfl) B.n_len (by decide +kernel) (pa_cons (pv 2) pa_nil)) pe_int))))))
 (pss_one (ps_if (PW.pt (pw_or (pt_cmpR op_gt (pe_callB (id := "len") call_len_str (by rfl) B.n_len (by decide +kernel) (pa_cons (pv 2) pa_nil)) pe_int (nomark _)) (pw_or1 (PW.pt (pw_and (pt_cmpR op_eq (pe_callB (id := "len") call_len_str (by rfl) B.n_len (by decide +kernel) (pa_cons (pv 2) pa_nil)) pe_int (nomark _)) (pw_and1 (pt_cmpR op_gt_str (pv 2) pe_str (nomark _))))))))
 (pss_one (ps_ret pe_bl))
 pss_nil)))))
 (pss_one (ps_ret pe_bl))), ?_⟩
    have lim : sizeLine = 16777216 := sizeLine_eq
    refine ⟨_, rfl, ⟨_, rfl⟩, x, "^", rfl, rfl, by decide +kernel, by omega, fun p hp => ?_⟩
    obtain ⟨hs, ehs⟩ : ∃ hs, hs = Txt.split x "^" := ⟨_, rfl⟩
    have ths : hs.map TL.tl = TL.spl [94] 0 [] (TL.tl x) := by rw [ehs]; exact split_hat x
    have ne : hs ≠ [] := fun z => by
      rw [z] at ths
      exact spl_ne [94] 0 [] (TL.tl x) ths.symm
    have lhs : hs.length ≤ 1000001 := by
      have a := spl_len [94] 0 [] (TL.tl x)
      rw [← ths, List.length_map, ← TL.len_tl] at a
      omega
    have piece : ∀ z ∈ hs, z.length ≤ 1000000 := fun z hz => by
      have m : TL.tl z ∈ TL.spl [94] 0 [] (TL.tl x) := by rw [← ths]; exact List.mem_map.mpr ⟨z, hz, rfl⟩
      have a := spl_mem [94] 0 [] (TL.tl x) _ m
      rw [← TL.len_tl, ← TL.len_tl] at a
      simp at a
      omega
    rw [← ehs]
    refine ⟨_, rfl, noPart ⟨p, _, rfl, SqL.of upd_same, fun p2 hp2 => ?_⟩⟩
    have l1 : 1 ≤ (hs.map V.str).length := by
      rw [List.length_map]
      cases hs with
      | nil => exact absurd rfl ne
      | cons a r => exact Nat.succ_pos _
    have ecut : cutV (hs.map V.str) (some 1) none = hs.tail.map V.str := by
      rw [show (1 : Int) = ((1 : Nat) : Int) from rfl, cut_drop _ 1 l1, List.drop_one, List.map_tail]
    rw [ecut]
    have sm2 := (same_new (o := .lst (hs.map V.str)) hp).trans (same_new (o := .lst (hs.tail.map V.str)) hp2)
    have gp2 : (upd (upd H p (.lst (hs.map V.str))) p2 (.lst (hs.tail.map V.str))) p2 = some (.lst (hs.tail.map V.str)) := upd_same
    generalize upd (upd H p (.lst (hs.map V.str))) p2 (.lst (hs.tail.map V.str)) = H2 at sm2 gp2 ⊢
    refine ⟨p2, rfl, ⟨_, SqL.of gp2⟩, for_list (K := K) (a := p2) (xs := hs.tail.map V.str) (fun i σ H' => Same H2 H' ∧ (∀ z ∈ hs.tail.take i, (dpre (TL.tl z)).length ≤ 3) ∧ ∃ y1 y2, σ = [some (.str x), y1, y2]) ⟨Same.refl _, fun z h => by simp at h, none, none, rfl⟩ (fun i σ H' _ h => SqL.of (h.1 _ _ gp2)) ?_ ?_⟩
    · rintro i v σ H3 hi ⟨s3, few, y1, y2, rfl⟩
      obtain ⟨y, hy, rfl⟩ := str_at hi
      have ly : y.length ≤ 1000000 := piece y (List.mem_of_mem_tail (List.mem_of_getElem? hy))
      have eln : y.length = (TL.tl y).length := TL.len_tl y
      refine ⟨fun m σ H' => Same H2 H' ∧ ∃ (j : Nat) (D : Str), σ = [some (.str x), some (.str y), some (.str D)] ∧ TL.tl D = (TL.tl y).take j ∧ j ≤ y.length ∧ m = y.length - j, ⟨_, s3, 0, Str.empty, rfl, (by rw [List.take_zero]; decide +kernel), Nat.zero_le _, rfl⟩, ?_⟩
      rintro m σ H' ⟨s4, j, D, rfl, eD, hj, rfl⟩
      have lD : D.length = j := by
        rw [TL.len_tl, eD, List.length_take]
        omega
      obtain rfl : D.length = j := lD
      obtain ⟨S, eS⟩ : ∃ S, S = cutS y (some (D.length : Int)) (some ((D.length : Int) + 1)) := ⟨_, rfl⟩
      have tS : TL.tl S = ((TL.tl y)[D.length]?).toList := by rw [eS]; exact cutS_one y D.length
      refine ⟨_, rfl, _, rfl, D, rfl, by omega, _, rfl, _, rfl, D, rfl, by omega, _, 1, rfl, rfl, _, rfl, y, rfl, by omega, "0123456789", rfl, by rw [TL.len_tl, digs, lim]; decide, fun u hu => ?_⟩
      have su := same_new (o := .lst (signsV ("0123456789" : Str))) hu
      rw [← eS]
      refine ⟨u, _, rfl, .inl (SqL.of upd_same), rfl, ?_, _, rfl, ?_⟩
      · rw [digs_signs]
        decide +kernel
      show (if inV (.str S) (signsV ("0123456789" : Str)) = true then _ else _)
      cases ein : inV (.str S) (signsV ("0123456789" : Str)) with
      | true =>
        have lt : D.length < y.length := by
          by_cases h : D.length < y.length
          · exact h
          · rw [List.getElem?_eq_none (by omega)] at tS
            rw [digs_empty tS] at ein
            cases ein
        refine iteT ⟨fun σ' H'' => Same H2 H'' ∧ ∃ D' : Str, σ' = [some (.str x), some (.str y), some (.str D')] ∧ TL.tl D' = (TL.tl y).take (D.length + 1), ?_, ?_⟩
        · rintro σ' H'' ⟨s5, D', rfl, e5⟩
          exact ⟨y.length - (D.length + 1), by omega, s5, D.length + 1, D', rfl, e5, by omega, rfl⟩
        · refine ⟨_, rfl, noPart ⟨_, rfl, D, rfl, by omega, _, 1, rfl, rfl, _, rfl, y, rfl, by omega, s4.trans su, _, rfl, ?_⟩⟩
          rw [show ((D.length : Int) + 1) = ((D.length + 1 : Nat) : Int) by omega]
          exact cutS_take y _ (by omega)
      | false =>
        refine iteF ?_
        have last : (dpre (TL.tl y)).length ≤ D.length := take_dpre fun c hc => by
          cases e : isDig c with
          | false => rfl
          | true =>
            rw [hc] at tS
            have eSc : S = ⟨#[c]⟩ := TL.ext_tl tS
            rw [eSc, digs_in e] at ein
            cases ein
        have s5 := s4.trans su
        have stop : Q (.bl false) (upd H' u (.lst (signsV ("0123456789" : Str)))) := q false _ (sm2.trans s5) fun z => (nomatch z)
        have go : D.length ≤ 3 → Same H2 (upd H' u (.lst (signsV ("0123456789" : Str)))) ∧ (∀ z ∈ hs.tail.take (i + 1), (dpre (TL.tl z)).length ≤ 3) ∧ ∃ y1 y2, [some (V.str x), some (.str y), some (.str D)] = [some (V.str x), y1, y2] := fun h3 => ⟨s5, fun z hz => by
          rw [List.take_add_one, hy] at hz
          rcases List.mem_append.mp hz with h | h
          · exact few z h
          · rw [List.mem_singleton.mp h]
            omega, _, _, rfl⟩
        refine ⟨_, rfl, D, rfl, by omega, _, _, rfl, rfl, _, rfl, ite2 (fun _ => ?_) (fun c1 => ?_)⟩
        · exact stop
        · have h3 : D.length ≤ 3 := by
            have : ¬ (3 : Int) < (D.length : Int) := fun z => c1 (decide_eq_true z)
            omega
          refine ⟨_, rfl, D, rfl, by omega, rfl, _, rfl, ite2 (fun _ => ?_) (fun _ => ?_)⟩
          · refine ⟨_, rfl, D, "100", rfl, rfl, _, rfl, ite2 (fun _ => stop) (fun _ => go h3)⟩
          · exact go h3
    · rintro σ H3 ⟨s3, few, y1, y2, rfl⟩
      refine q true _ (sm2.trans s3) fun _ => ?_
      rw [List.length_map, List.take_length] at few
      intro z hz
      rw [← ths, ← List.map_tail] at hz
      obtain ⟨z', hz', rfl⟩ := List.mem_map.mp hz
      exact few z' hz'
end
end Sq

set_option Elab.async false
set_option linter.all false
set_option maxRecDepth 100000
set_option maxHeartbeats 4000000
set_option exponentiation.threshold 2000
namespace Sq
open PySem PySem.Spec PyProof.Rows L2
open NumText (digitsVal AllDigits)
open TL (numL)
theorem Low7.app {a b : List Nat} (h : Low7 a) (g : Low7 b) : Low7 (a ++ b) := fun c hc => by
  rcases List.mem_append.mp hc with z | z
  · exact h c z
  · exact g c z
theorem low7_num (n : Nat) : Low7 (numL n) := numL_low n
section
variable {P : Program} {w : World} {K : PySem.W.Frag} {mg : Str → Option Value} {base : Heap}
def spParts : Sp := fun vs H Q _ => ∃ (l : Addr) (seed cnt : Int), vs = [.ref l] ∧ Rng H l seed cnt ∧ cnt < 500000 ∧
  ∀ p ws cnt' H', H p = none → Rng H' l seed cnt' → cnt' ≤ cnt + 80 → Keep1 H H' l → H' p = some (.lst (List.map V.str ws)) → ws.length ≤ 14 → (∀ x ∈ ws, x.length ≤ 210 ∧ Low7 (TL.tl x)) → Q (.ref p) H'
theorem ok_lawparts {f : Addr} {fd : FuncData} (F : Fun K "_law_parts" "_law_parts" s_lawparts f fd) (B : Bi mg) (D_lawdraw : Df P w K mg base 1 "_law_draw" ["rng", "limit"] spDraw) : FnOk P w K mg base CX0 2 f fd ["rng"] spParts := by
  refine F.ok sc_lawparts (fun vs H Q E h => ?_) (fun cdv A outer s H vs Q E hr h => ?_)
  · obtain ⟨l, seed, cnt, rfl, _⟩ := h
    rfl
  · obtain ⟨l, seed, cnt, rfl, S, hc, q⟩ := h
    refine ⟨_, (pss_cons (ps_par (i := 1) (j := 2) (by rfl) sc_lawparts.nd rfl rfl (by decide) rfl rfl (pa_cons (pe_lst pa_nil) (pa_cons pe_int pa_nil)) (by rfl))
 (pss_cons (ps_for PassesOwn.never rfl (pi_range1 (by rfl) B.n_range (pa_cons (pe_callD D_lawdraw (hr.mono (by omega)) (by rfl) (pa_cons (pv 0) (pa_cons (pe_ix (r := rIxL K) ix_list (pe_lst (pa_cons pe_int (pa_cons pe_int (pa_cons pe_int pa_nil)))) (pe_callD D_lawdraw (hr.mono (by omega)) (by rfl) (pa_cons (pv 0) (pa_cons pe_int pa_nil))) (fun _ _ => rfl)) pa_nil))) pa_nil)) (pg_name (i := 3) sc_lawparts.nd rfl (Or.inl rfl))
 (pss_cons (ps_set (i := 4) sc_lawparts.nd rfl (Or.inl rfl) (pe_op op_mulW (pe_op op_mulW (pe_op op_mulW (pe_op op_pow pe_int pe_int) (pe_op op_pow pe_int pe_int)) (pe_op op_pow pe_int pe_int)) (pe_op op_pow pe_int pe_int)))
 (pss_cons (ps_set (i := 5) sc_lawparts.nd rfl (Or.inl rfl) (pe_op op_add pe_int (pe_callD D_lawdraw (hr.mono (by omega)) (by rfl) (pa_cons (pv 0) (pa_cons (pe_ix (r := rIxL K) ix_list (pe_lst (pa_cons pe_int (pa_cons pe_int (pa_cons (pe_op op_pow pe_int pe_int) (pa_cons (pv 4) pa_nil))))) (pe_callD D_lawdraw (hr.mono (by omega)) (by rfl) (pa_cons (pv 0) (pa_cons pe_int pa_nil))) (fun _ _ => rfl)) pa_nil)))))
 (pss_cons (ps_if (pt_cmpR op_eq (pv 5) (pv 2) (nomark _))
 (pss_one (ps_set (i := 5) sc_lawparts.nd rfl (Or.inl rfl) (pe_op op_add (pv 5) pe_int)))
 pss_nil)
 (pss_cons (ps_set (i := 6) sc_lawparts.nd rfl (Or.inl rfl) (pe_ix (r := rIxL K) ix_list (pe_lst (pa_cons pe_int (pa_cons pe_int (pa_cons pe_int (pa_cons (pe_op op_add pe_int (pe_callD D_lawdraw (hr.mono (by omega)) (by rfl) (pa_cons (pv 0) (pa_cons pe_int pa_nil)))) pa_nil))))) (pe_callD D_lawdraw (hr.mono (by omega)) (by rfl) (pa_cons (pv 0) (pa_cons pe_int pa_nil))) (fun _ _ => rfl)))
 (pss_cons (ps_expr (pe_bm PySem.F.plainAttrs_list PySem.F.slot_list_append PySem.F.type_list_append mt_append (pv 1) (pa_cons (pe_op op_add_str (pe_callTy (T := "str") call_str_int (by rfl) B.n_str (by decide +kernel) (pa_cons (pv 5) pa_nil)) (pe_ix (r := rIxL K) ix_list (pe_lst (pa_cons pe_str (pa_cons (pe_op op_add_str pe_str (pe_callTy (T := "str") call_str_int (by rfl) B.n_str (by decide +kernel) (pa_cons (pv 6) pa_nil))) pa_nil))) (pe_callTy (T := "int") call_int1 (by rfl) B.n_int (by decide +kernel) (pa_cons (pe_cmpR op_gt (pv 6) pe_int (nomark _)) pa_nil)) (fun _ _ => rfl))) pa_nil)))
 (pss_one (ps_set (i := 2) sc_lawparts.nd rfl (Or.inl rfl) (pv 5)))))))))
 (pss_one (ps_ret (pv 1))))), ?_⟩
    have lim : sizeLine = 16777216 := sizeLine_eq
    have w2 : 2 ≤ sizeLine := by omega
    have w3 : 3 ≤ sizeLine := by omega
    have w4 : 4 ≤ sizeLine := by omega
    have pw : ∀ {k : Nat}, k ≤ 60 → ((10 : Int) ^ k).natAbs < 2 ^ 200 := fun h => by
      rw [Int.natAbs_pow]
      exact Nat.lt_of_le_of_lt (Nat.pow_le_pow_right (by decide) h) (by decide)
    refine ⟨z0L, fun p hp => ⟨_, _, rfl, ?_⟩⟩
    have npl := S.ne hp
    have S0 := S.same (same_new (o := .lst []) hp)
    refine ⟨_, rfl, w3, fun t0 ht0 => ?_⟩
    refine ⟨_, rfl, l, seed, cnt, 3, rfl, S0.same (same_new ht0), by omega, by decide, by decide, fun z1 c1 H1 z10 z11 S1 hc1 k1 => ?_⟩
    obtain ⟨m, mm, ma⟩ := nth_of (xs := [3, 9, 15]) z10 z11
    have mb : 3 ≤ m ∧ m ≤ 15 := by
      simp only [List.mem_cons, List.not_mem_nil, or_false] at mm
      omega
    refine ⟨t0, _, z1, .int m, rfl, rfl, SqL.of (k1 _ _ upd_same (S0.ne ht0)), ma, l, seed, c1, m, rfl, S1, by omega, by omega, by omega, fun M c2 H2 M0 M1 S2 hc2 k2 => ?_⟩
    have k02 : Keep1 H H2 l := (((Keep1.of (same_new hp)).trans (Keep1.of (same_new ht0))).trans k1).trans k2
    have gp2 := k2 _ _ (k1 _ _ (same_new ht0 _ _ (upd_same (H := H) (o := .lst []))) npl) npl
    refine ⟨M, rfl, by omega, by omega, for_range (lo := 0) (n := M.toNat) (fun i σ H' => ∃ (ws : List Str) (la cnt' : Int) (y3 y4 y5 y6 : Option V), σ = [some (.ref l), some (.ref p), some (.int la), y3, y4, y5, y6] ∧ Rng H' l seed cnt' ∧ cnt' ≤ cnt + 2 + 5 * i ∧ (∀ b o, H b = some o → b ≠ l → H' b = some o) ∧ H' p = some (.lst (ws.map V.str)) ∧ ws.length = i ∧ ∀ x ∈ ws, x.length ≤ 210 ∧ Low7 (TL.tl x))
      ⟨[], 0, c2, none, none, none, none, rfl, S2, by omega, k02, gp2, rfl, fun x h => (nomatch h)⟩ ?_ ?_⟩
    · rintro i σ H3 hi ⟨ws, la, c3, y3, y4, y5, y6, rfl, S3, hc3, k3, gp3, lw, hw⟩
      have i14 : i < 14 := by omega
      obtain ⟨far, efar⟩ : ∃ far : Int, far = 10 ^ (60 : Int).toNat * 10 ^ (60 : Int).toNat * 10 ^ (60 : Int).toNat * 10 ^ (19 : Int).toNat := ⟨_, rfl⟩
      have fb : 0 < far ∧ far.natAbs < 2 ^ 700 ∧ far ≤ 10 ^ 199 := by subst efar; exact ⟨by decide +kernel, by decide +kernel, by decide +kernel⟩
      refine ⟨10, 60, rfl, rfl, ⟨by decide, by decide, by decide⟩, 10, 60, rfl, rfl, ⟨by decide, by decide, by decide⟩, _, _, rfl, rfl, wide_mul (a := 200) (b := 200) (by decide +kernel) (by decide +kernel) (by decide) (by decide) (by decide), 10, 60, rfl, rfl, ⟨by decide, by decide, by decide⟩, _, _, rfl, rfl, wide_mul (a := 400) (b := 200) (by decide +kernel) (by decide +kernel) (by decide) (by decide) (by decide), 10, 19, rfl, rfl, ⟨by decide, by decide, by decide⟩, _, _, rfl, rfl, wide_mul (a := 600) (b := 200) (by decide +kernel) (by decide +kernel) (by decide) (by decide) (by decide), ?_⟩
      dsimp only
      rw [← efar]
      clear efar
      -- number
      refine ⟨_, rfl, 10, 6, rfl, rfl, ⟨by decide, by decide, by decide⟩, _, rfl, w4, fun t4 ht4 => ?_⟩
      refine ⟨_, rfl, l, seed, c3, 4, rfl, S3.same (same_new ht4), by omega, by decide, by decide, fun z4 c4 H4 z40 z41 S4 hc4 k4 => ?_⟩
      obtain ⟨g, gm, ga⟩ := nth_of (xs := [4, 60, 10 ^ (6 : Int).toNat, far]) z40 z41
      have gb : 0 < g ∧ g.natAbs < 2 ^ 700 ∧ g ≤ 10 ^ 199 := by
        simp only [List.mem_cons, List.not_mem_nil, or_false] at gm
        rcases gm with e | e | e | e
        · subst e; exact ⟨by decide +kernel, by decide +kernel, by decide +kernel⟩
        · subst e; exact ⟨by decide +kernel, by decide +kernel, by decide +kernel⟩
        · subst e; exact ⟨by decide +kernel, by decide +kernel, by decide +kernel⟩
        · subst e; exact fb
      refine ⟨t4, _, z4, .int g, rfl, rfl, SqL.of (k4 _ _ upd_same (S3.ne ht4)), ga, l, seed, c4, g, rfl, S4, by omega, gb.1, gb.2.1, fun z5 c5 H5 z50 z51 S5 hc5 k5 => ⟨2, z5, rfl, rfl, ?_⟩⟩
      have k35 := ((Keep1.of (same_new (o := .lst [.int 4, .int 60, .int (10 ^ (6 : Int).toNat), .int far]) ht4)).trans k4).trans k5
      have gp5 := k35 _ _ gp3 npl
      refine tellNx (fun σ2 H' => ∃ nn : Nat, σ2 = [some (.ref l), some (.ref p), some (.int la), some (.int (0 + (i : Int))), some (.int far), some (.int (nn : Int)), y6] ∧ H' = H5 ∧ nn < 10 ^ 200) (fun N hN => ?_) (fun σ2 H' h => ?_)
      · obtain ⟨zn, rfl⟩ : ∃ zn : Nat, z5 = (zn : Int) := ⟨z5.toNat, by omega⟩
        have zb : zn < 10 ^ 199 := by
          have : (zn : Int) < ((10 ^ 199 : Nat) : Int) := by
            rw [Int.natCast_pow]
            exact Int.lt_of_lt_of_le z51 gb.2.2
          exact Int.ofNat_lt.mp this
        have z200 : zn + 3 < 10 ^ 200 := by
          have : (10 : Nat) ^ 200 = 10 * 10 ^ 199 := by rw [← Nat.pow_succ']
          have p1 : 1 ≤ 10 ^ 199 := Nat.one_le_pow _ _ (by decide)
          generalize (10 : Nat) ^ 199 = T at zb this p1
          omega
        refine ⟨_, rfl, _, rfl, rfl, _, rfl, ite2 (fun _ => ?_) (fun _ => hN _ _ ⟨zn + 2, by rw [show ((zn + 2 : Nat) : Int) = 2 + (zn : Int) by omega]; rfl, rfl, by omega⟩)⟩
        exact ⟨_, rfl, _, 1, rfl, rfl, hN _ _ ⟨zn + 3, by rw [show ((zn + 3 : Nat) : Int) = 2 + (zn : Int) + 1 by omega]; rfl, rfl, z200⟩⟩
      obtain ⟨nn, rfl, rfl, nb⟩ := h
      -- times
      refine ⟨_, rfl, l, seed, c5, 99, rfl, S5, by omega, by decide, by decide, fun z6 c6 H6 z60 z61 S6 hc6 k6 => ⟨2, z6, rfl, rfl, w4, fun t6 ht6 => ?_⟩⟩
      refine ⟨_, rfl, l, seed, c6, 4, rfl, S6.same (same_new ht6), by omega, by decide, by decide, fun z7 c7 H7 z70 z71 S7 hc7 k7 => ?_⟩
      obtain ⟨tm, tmm, ta⟩ := nth_of (xs := [1, 1, 2, 2 + z6]) z70 z71
      have tb : 1 ≤ tm ∧ tm ≤ 101 := by
        simp only [List.mem_cons, List.not_mem_nil, or_false] at tmm
        omega
      refine ⟨t6, _, z7, .int tm, rfl, rfl, SqL.of (k7 _ _ upd_same (S6.ne ht6)), ta, ?_⟩
      have k57 := (k6.trans (Keep1.of (same_new (o := .lst [.int 1, .int 1, .int 2, .int (2 + z6)]) ht6))).trans k7
      have gp7 := k57 _ _ gp5 npl
      obtain ⟨tn, rfl⟩ : ∃ tn : Nat, tm = (tn : Int) := ⟨tm.toNat, by omega⟩
      have tN : TL.tl (Str.ofString (toString (nn : Int))) = numL nn := TL.tl_num nn
      have tT : TL.tl (Str.ofString (toString (tn : Int))) = numL tn := TL.tl_num tn
      obtain ⟨SN, eSN⟩ : ∃ SN, SN = Str.ofString (toString (nn : Int)) := ⟨_, rfl⟩
      obtain ⟨ST, eST⟩ : ∃ ST, ST = Str.ofString (toString (tn : Int)) := ⟨_, rfl⟩
      have lN : SN.length ≤ 200 := by rw [eSN, TL.len_tl, tN]; exact TL.numL_len (by decide) nb
      have lT : ST.length ≤ 3 := by rw [eST, TL.len_tl, tT]; exact TL.numL_len (by decide) (by omega)
      have lowN : Low7 (TL.tl SN) := by rw [eSN, tN]; exact low7_num nn
      have lowT : Low7 (TL.tl ST) := by rw [eST, tT]; exact low7_num tn
      have lgN : (nn : Int).natAbs.log2 < 1920 := Nat.lt_of_lt_of_le (PySem.Flt.log2_lt_of (k := 700) (by decide) (by rw [Int.natAbs_natCast]; exact Nat.lt_of_lt_of_le nb (by decide +kernel))) (by decide)
      have lgT : (tn : Int).natAbs.log2 < 1920 := Nat.lt_of_lt_of_le (PySem.Flt.log2_lt_of (k := 10) (by decide) (by rw [Int.natAbs_natCast]; omega)) (by decide)
      have hatL : ("^" : Str).length = 1 := by decide +kernel
      have U_ex : ∃ U : Str, atI [V.str "", V.str ("^" ++ ST)] (if decide ((tn : Int) > 1) = true then 1 else 0) = some (.str U) ∧ U.length ≤ 4 ∧ Low7 (TL.tl U) := by
        by_cases c : (tn : Int) > 1
        · rw [decide_eq_true c]
          refine ⟨"^" ++ ST, rfl, ?_, ?_⟩
          · rw [TL.len_tl, TL.tl_append, List.length_append, ← TL.len_tl, ← TL.len_tl, hatL]
            omega
          · rw [TL.tl_append, signs_hat]
            exact Low7.app (fun c hc => by rw [List.mem_singleton.mp hc]; decide) lowT
        · rw [decide_eq_false c]
          exact ⟨"", rfl, by decide, fun c hc => (nomatch hc)⟩
      obtain ⟨U, atU, lU, lowU⟩ := U_ex
      refine ⟨_, rfl, .inl ⟨rfl, _, SqL.of gp7⟩, _, rfl, (nn : Int), rfl, lgN, _, rfl, (tn : Int), rfl, lgT, "^", _, rfl, rfl, by rw [← eST]; omega, w2, fun t8 ht8 => ?_⟩
      rw [← eSN]
      refine ⟨_, rfl, _, _, rfl, rfl, .inr ⟨_, rfl, t8, _, _, .str U, rfl, rfl, SqL.of upd_same, by rw [← eST]; exact atU, _, _, rfl, rfl, by omega, p, _, _, rfl, rfl, same_new ht8 _ _ gp7, by rw [List.length_map]; omega, ?_⟩⟩
      have npt : p ≠ t8 := ne_of_none gp7 ht8
      refine ⟨_, rfl, ws ++ [SN ++ U], (nn : Int), c7, _, _, _, _, rfl, (S7.same (same_new ht8)).upd npl, by omega, fun b o e nb => ?_, ?_, by rw [List.length_append, lw]; rfl, fun x hx => ?_⟩
      · rw [upd_ne (ne_of_none e hp)]
        exact same_new ht8 _ _ (k57 _ _ (k35 _ _ (k3 _ _ e nb) nb) nb)
      · rw [upd_same, List.map_append]
        rfl
      · rcases List.mem_append.mp hx with h | h
        · exact hw x h
        · rw [List.mem_singleton.mp h, TL.tl_append]
          refine ⟨?_, Low7.app lowN lowU⟩
          rw [TL.len_tl, TL.tl_append, List.length_append, ← TL.len_tl, ← TL.len_tl]
          omega
    · rintro σ H3 ⟨ws, la, c3, y3, y4, y5, y6, rfl, S3, hc3, k3, gp3, lw, hw⟩
      exact ⟨_, rfl, q p ws c3 H3 hp S3 (by omega) k3 gp3 (by omega) hw⟩
end
end Sq

set_option Elab.async false
set_option linter.all false
set_option maxRecDepth 100000
set_option maxHeartbeats 4000000
set_option exponentiation.threshold 2000
namespace Sq
open PySem PySem.Spec PyProof.Rows L2
open NumText (digitsVal AllDigits)
open TL (numL)
theorem lim10 {i : Int} (h : i.natAbs ≤ 10 ^ 31) : i.natAbs < 2 ^ 700 := Nat.lt_of_le_of_lt h (by decide)
theorem at_ex {α : Type} (xs : List α) {z : Int} (h0 : 0 ≤ z) (h : z < xs.length) : ∃ c, c ∈ xs ∧ atI xs z = some c := by
  have lt : z.toNat < xs.length := by omega
  refine ⟨xs[z.toNat], List.getElem_mem lt, ?_⟩
  have e : z = ((z.toNat : Nat) : Int) := by omega
  have g := atI_nat (j := z.toNat) (List.getElem?_eq_getElem lt)
  rw [← e] at g
  exact g
def someA : List Str := ["0", "1", "1^2", "02", "2^1", "2^0", "2^02", "-2", "2.", "", " ", "none", "2^", "^2"]
def someB : List Str := [("2^2^2" : Str), "2, 2", "3^2, 3", Txt.mul "9" 200, Txt.mul "9" 201, "2^-1", " 2", "2 "]
def someC : List Str := ["2,3", "x", "2^3", "1_0", "+2"]
def someT : List Str := (someA ++ someB) ++ someC
theorem someT_ok : ∀ x ∈ someT, x.length ≤ 201 ∧ Low7 (TL.tl x) := by
  have key : (someT.all fun x => decide (x.length ≤ 201) && (TL.tl x).all fun c => decide (c < 128)) = true := by decide +kernel
  intro x hx
  have := List.all_eq_true.mp key x hx
  rw [Bool.and_eq_true] at this
  exact ⟨of_decide_eq_true this.1, fun c hc => of_decide_eq_true (List.all_eq_true.mp this.2 c hc)⟩
theorem signs_low : ∀ c ∈ TL.tl ("0123^,, ^-+.x" : Str), c < 128 := by
  have key : ((TL.tl ("0123^,, ^-+.x" : Str)).all fun c => decide (c < 128)) = true := by decide +kernel
  exact fun c hc => of_decide_eq_true (List.all_eq_true.mp key c hc)
theorem mul_one {c : Nat} {z : Int} (h0 : 0 ≤ z) (h : z < 2) : _root_.PySem.MulOk ⟨#[c]⟩ z ∧ (TL.tl (Txt.mul ⟨#[c]⟩ z) = [] ∨ TL.tl (Txt.mul ⟨#[c]⟩ z) = [c]) := by
  have : z = 0 ∨ z = 1 := by omega
  rcases this with e | e
  · subst e
    exact ⟨⟨by decide, fun z => absurd (by decide) z, fun z => absurd (by decide) z⟩, .inl rfl⟩
  · subst e
    exact ⟨by unfold _root_.PySem.MulOk; exact ⟨by decide, fun _ z => absurd z (by simp), fun _ z => absurd z (by simp)⟩, .inr rfl⟩
theorem mul_9a : _root_.PySem.MulOk "9" 200 := by
  unfold _root_.PySem.MulOk
  exact ⟨by decide +kernel, fun _ _ => by decide +kernel, fun _ _ => by decide +kernel⟩
theorem mul_9b : _root_.PySem.MulOk "9" 201 := by
  unfold _root_.PySem.MulOk
  exact ⟨by decide +kernel, fun _ _ => by decide +kernel, fun _ _ => by decide +kernel⟩
section
variable {P : Program} {w : World} {K : PySem.W.Frag} {mg : Str → Option Value} {base : Heap}
def spBent : Sp := fun vs H Q _ => ∃ (l : Addr) (seed cnt : Int) (x : Str), vs = [.ref l, .str x] ∧ Rng H l seed cnt ∧ cnt < 500000 ∧ x.length ≤ 3000 ∧ Low7 (TL.tl x) ∧
  ∀ y cnt' H', Rng H' l seed cnt' → cnt' ≤ cnt + 20 → Keep1 H H' l → y.length ≤ 20000 → Low7 (TL.tl y) → Q (.str y) H'
theorem ok_lawbent {f : Addr} {fd : FuncData} (F : Fun K "_law_bent" "_law_bent" s_lawbent f fd) (B : Bi mg) (D_lawdraw : Df P w K mg base 1 "_law_draw" ["rng", "limit"] spDraw) : FnOk P w K mg base CX0 2 f fd ["rng", "written"] spBent := by
  refine F.ok sc_lawbent (fun vs H Q E h => ?_) (fun cdv A outer s H vs Q E hr h => ?_)
  · obtain ⟨l, seed, cnt, x, rfl, _⟩ := h
    rfl
  · obtain ⟨l, seed, cnt, x, rfl, S, hc, hx, low, q⟩ := h
    refine ⟨_, (pss_cons (ps_if (pt_cmpR op_gt (pe_callD D_lawdraw (hr.mono (by omega)) (by rfl) (pa_cons (pv 0) (pa_cons pe_int pa_nil))) pe_int (nomark _))
 (pss_cons (ps_set (i := 2) sc_lawbent.nd rfl (Or.inl rfl) (pe_split (pv 1) pe_str))
 (pss_cons (ps_set (i := 3) sc_lawbent.nd rfl (Or.inl rfl) (pe_lst (pa_cons pe_str (pa_cons pe_str (pa_cons pe_str (pa_cons pe_str (pa_cons pe_str (pa_cons pe_str (pa_cons pe_str (pa_cons pe_str (pa_cons pe_str (pa_cons pe_str (pa_cons pe_str (pa_cons pe_str (pa_cons pe_str (pa_cons pe_str pa_nil))))))))))))))))
 (pss_cons (ps_set (i := 3) sc_lawbent.nd rfl (Or.inl rfl) (pe_op op_cat (pv 3) (pe_lst (pa_cons pe_str (pa_cons pe_str (pa_cons pe_str (pa_cons (pe_op op_mulS pe_str pe_int) (pa_cons (pe_op op_mulS pe_str pe_int) (pa_cons pe_str (pa_cons pe_str (pa_cons pe_str pa_nil)))))))))))
 (pss_cons (ps_set (i := 3) sc_lawbent.nd rfl (Or.inl rfl) (pe_op op_cat (pv 3) (pe_lst (pa_cons pe_str (pa_cons pe_str (pa_cons pe_str (pa_cons pe_str (pa_cons pe_str pa_nil))))))))
 (pss_cons (ps_set (i := 4) sc_lawbent.nd rfl (Or.inl rfl) (pe_callD D_lawdraw (hr.mono (by omega)) (by rfl) (pa_cons (pv 0) (pa_cons (pe_callB (id := "len") (r := rLenK K) call_lenK (by rfl) B.n_len (by decide +kernel) (pa_cons (pv 2) pa_nil)) pa_nil))))
 (pss_one (ps_ret (pe_join pe_str (pe_op op_cat (pe_op op_cat (pe_slice sl_list (pv 2) po_none (po_some (pv 4))) (pe_lst (pa_cons (pe_ix (r := rIxL K) ix_list (pv 3) (pe_callD D_lawdraw (hr.mono (by omega)) (by rfl) (pa_cons (pv 0) (pa_cons (pe_callB (id := "len") (r := rLenK K) call_lenK (by rfl) B.n_len (by decide +kernel) (pa_cons (pv 3) pa_nil)) pa_nil))) (fun _ _ => rfl)) pa_nil))) (pe_slice sl_list (pv 2) (po_some (pe_op op_add (pv 4) (pe_callD D_lawdraw (hr.mono (by omega)) (by rfl) (pa_cons (pv 0) (pa_cons pe_int pa_nil))))) po_none))))))))))
 pss_nil)
 (pss_cons (ps_set (i := 5) sc_lawbent.nd rfl (Or.inl rfl) pe_str)
 (pss_cons (ps_for PassesOwn.never rfl (pi_range1 (by rfl) B.n_range (pa_cons (pe_op op_add pe_int (pe_callD D_lawdraw (hr.mono (by omega)) (by rfl) (pa_cons (pv 0) (pa_cons pe_int pa_nil)))) pa_nil)) (pg_name (i := 6) sc_lawbent.nd rfl (Or.inl rfl))
 (pss_cons (ps_set (i := 7) sc_lawbent.nd rfl (Or.inl rfl) (pe_callD D_lawdraw (hr.mono (by omega)) (by rfl) (pa_cons (pv 0) (pa_cons (pe_op op_add (pe_callB (id := "len") call_len_str (by rfl) B.n_len (by decide +kernel) (pa_cons (pv 1) pa_nil)) pe_int) pa_nil))))
 (pss_cons (ps_set (i := 8) sc_lawbent.nd rfl (Or.inl rfl) (pe_op op_mulS (pe_ix ix_str (pv 5) (pe_callD D_lawdraw (hr.mono (by omega)) (by rfl) (pa_cons (pv 0) (pa_cons (pe_callB (id := "len") call_len_str (by rfl) B.n_len (by decide +kernel) (pa_cons (pv 5) pa_nil)) pa_nil))) (fun _ _ => rfl)) (pe_callD D_lawdraw (hr.mono (by omega)) (by rfl) (pa_cons (pv 0) (pa_cons pe_int pa_nil)))))
 (pss_one (ps_set (i := 1) sc_lawbent.nd rfl (Or.inl rfl) (pe_op op_add_str (pe_op op_add_str (pe_slice sl_str (pv 1) po_none (po_some (pv 7))) (pv 8)) (pe_slice sl_str (pv 1) (po_some (pe_op op_add (pv 7) (pe_callD D_lawdraw (hr.mono (by omega)) (by rfl) (pa_cons (pv 0) (pa_cons pe_int pa_nil))))) po_none)))))))
 (pss_one (ps_ret (pv 1)))))), ?_⟩
    have lim : sizeLine = 16777216 := sizeLine_eq
    have w1 : 1 ≤ sizeLine := by omega
    refine ⟨_, rfl, l, seed, cnt, 3, rfl, S, by omega, by decide, by decide, fun z1 c1 H1 z10 z11 S1 hc1 k1 => ⟨_, _, rfl, rfl, _, rfl, ite2 (fun _ => ?_) (fun _ => ?_)⟩⟩
    · -- one part is exchanged
      refine ⟨_, rfl, ⟨_, rfl⟩, x, ", ", rfl, rfl, by decide +kernel, by omega, fun p hp => ?_⟩
      obtain ⟨ps, eps⟩ : ∃ ps, ps = Txt.split x ", " := ⟨_, rfl⟩
      have tps : ps.map TL.tl = TL.spl [44, 32] 0 [] (TL.tl x) := by rw [eps]; exact split_sep x
      rw [← eps]
      have lps : ps.length ≤ 3001 := by
        have a := spl_len [44, 32] 0 [] (TL.tl x)
        rw [← tps, List.length_map, ← TL.len_tl] at a
        omega
      have nps : 1 ≤ ps.length := by
        cases ps with
        | nil => exact absurd tps.symm (spl_ne _ _ _ _)
        | cons a r => exact Nat.succ_pos _
      have sps : (ps.map fun y => y.length).sum ≤ 3000 := by
        have a := spl_sum [44, 32] 0 [] (TL.tl x)
        rw [← tps, List.map_map] at a
        have e : (ps.map (List.length ∘ TL.tl)) = ps.map fun y => y.length := List.map_congr_left fun y _ => (TL.len_tl y).symm
        rw [e, ← TL.len_tl] at a
        simp only [List.length_nil] at a
        omega
      have lowps : ∀ y ∈ ps, Low7 (TL.tl y) := fun y hy c hc => by
        rcases spl_chars _ _ _ _ (TL.tl y) (by rw [← tps]; exact List.mem_map.mpr ⟨y, hy, rfl⟩) c hc with h | h
        · cases h
        · exact low c h
      clear tps
      have sp1 := same_new (o := .lst (ps.map V.str)) hp
      have gp1 : (upd H1 p (.lst (ps.map V.str))) p = some (.lst (ps.map V.str)) := upd_same
      have npl := S1.ne hp
      have S2 := S1.same sp1
      have k2 := k1.trans (Keep1.of sp1)
      generalize upd H1 p (.lst (ps.map V.str)) = H2 at gp1 S2 k2 ⊢
      refine ⟨by show 14 ≤ sizeLine; omega, fun a1 ha1 => ?_⟩
      rw [show (HO.lst [V.str "0", V.str "1", V.str "1^2", V.str "02", V.str "2^1", V.str "2^0", V.str "2^02", V.str "-2", V.str "2.", V.str "", V.str " ", V.str "none", V.str "2^", V.str "^2"]) = .lst (someA.map V.str) from rfl]
      have sa1 := same_new (o := .lst (someA.map V.str)) ha1
      have ga1 : (upd H2 a1 (.lst (someA.map V.str))) a1 = some (.lst (someA.map V.str)) := upd_same
      refine ⟨_, rfl, "9", 200, rfl, rfl, mul_9a, "9", 201, rfl, rfl, mul_9b, by show 8 ≤ sizeLine; omega, fun a2 ha2 => ?_⟩
      rw [show (HO.lst [V.str "2^2^2", V.str "2, 2", V.str "3^2, 3", V.str (Txt.mul "9" 200), V.str (Txt.mul "9" 201), V.str "2^-1", V.str " 2", V.str "2 "]) = .lst (someB.map V.str) from rfl]
      have sa2 := same_new (o := .lst (someB.map V.str)) ha2
      have ga2 : (upd (upd H2 a1 (.lst (someA.map V.str))) a2 (.lst (someB.map V.str))) a2 = some (.lst (someB.map V.str)) := upd_same
      refine ⟨a1, a2, _, _, rfl, rfl, sa2 _ _ ga1, ga2, by show 14 + 8 ≤ sizeLine; omega, fun a3 ha3 => ?_⟩
      have sa3 := same_new (o := .lst (someA.map V.str ++ someB.map V.str)) ha3
      have ga3 : (upd (upd (upd H2 a1 (.lst (someA.map V.str))) a2 (.lst (someB.map V.str))) a3 (.lst (someA.map V.str ++ someB.map V.str))) a3 = some (.lst (someA.map V.str ++ someB.map V.str)) := upd_same
      refine ⟨_, rfl, by show 5 ≤ sizeLine; omega, fun a4 ha4 => ?_⟩
      rw [show (HO.lst [V.str "2,3", V.str "x", V.str "2^3", V.str "1_0", V.str "+2"]) = .lst (someC.map V.str) from rfl]
      have sa4 := same_new (o := .lst (someC.map V.str)) ha4
      have ga4 : (upd (upd (upd (upd H2 a1 (.lst (someA.map V.str))) a2 (.lst (someB.map V.str))) a3 (.lst (someA.map V.str ++ someB.map V.str))) a4 (.lst (someC.map V.str))) a4 = some (.lst (someC.map V.str)) := upd_same
      refine ⟨a3, a4, _, _, rfl, rfl, sa4 _ _ ga3, ga4, by show 14 + 8 + 5 ≤ sizeLine; omega, fun a5 ha5 => ?_⟩
      have sa5 := same_new (o := .lst ((someA.map V.str ++ someB.map V.str) ++ someC.map V.str)) ha5
      have ga5 : (upd (upd (upd (upd (upd H2 a1 (.lst (someA.map V.str))) a2 (.lst (someB.map V.str))) a3 (.lst (someA.map V.str ++ someB.map V.str))) a4 (.lst (someC.map V.str))) a5 (.lst ((someA.map V.str ++ someB.map V.str) ++ someC.map V.str))) a5 = some (.lst (someT.map V.str)) := by
        rw [upd_same]
        unfold someT
        rw [List.map_append, List.map_append]
      have s25 := (((sa1.trans sa2).trans sa3).trans sa4).trans sa5
      have gp5 := s25 _ _ gp1
      have S5 := S2.same s25
      have k5 := k2.trans (Keep1.of s25)
      have na5 : a5 ≠ l := (S2.same (((sa1.trans sa2).trans sa3).trans sa4)).ne ha5
      generalize upd (upd (upd (upd (upd H2 a1 (.lst (someA.map V.str))) a2 (.lst (someB.map V.str))) a3 (.lst (someA.map V.str ++ someB.map V.str))) a4 (.lst (someC.map V.str))) a5 (.lst ((someA.map V.str ++ someB.map V.str) ++ someC.map V.str)) = H5 at gp5 S5 k5 ga5 ⊢
      clear sa1 sa2 sa3 sa4 sa5 ga1 ga2 ga3 ga4 ha1 ha2 ha3 ha4 ha5 s25
      refine ⟨_, rfl, _, rfl, p, _, rfl, .inl (SqL.of gp5), l, seed, c1, _, rfl, S5, by omega, by rw [List.length_map]; omega, lim10 (by rw [List.length_map]; omega), fun zs c6 H6 zs0 zs1 S6 hc6 k6 => ?_⟩
      rw [List.length_map] at zs1
      obtain ⟨sp, rfl⟩ : ∃ sp : Nat, zs = (sp : Int) := ⟨zs.toNat, by omega⟩
      have spl : sp < ps.length := by omega
      have gp6 := k6 _ _ gp5 npl
      have ga6 := k6 _ _ ga5 na5
      have c0 : cutV (ps.map V.str) none (some (sp : Int)) = (ps.take sp).map V.str := by rw [cut_take _ _ (by rw [List.length_map]; omega), List.map_take]
      refine ⟨⟨_, rfl⟩, _, rfl, noPart ⟨_, rfl, _, rfl, p, _, rfl, SqL.of gp6, fun b1 hb1 => ?_⟩⟩
      rw [c0]
      have sb1 := same_new (o := .lst ((ps.take sp).map V.str)) hb1
      have gb1 : (upd H6 b1 (.lst ((ps.take sp).map V.str))) b1 = some (.lst ((ps.take sp).map V.str)) := upd_same
      have S7 := S6.same sb1
      have nb1 := S6.ne hb1
      have k7 := (k5.trans k6).trans (Keep1.of sb1)
      have gp7 := sb1 _ _ gp6
      have ga7 := sb1 _ _ ga6
      generalize upd H6 b1 (.lst ((ps.take sp).map V.str)) = H7 at gb1 S7 k7 gp7 ga7 ⊢
      refine ⟨_, rfl, _, rfl, _, rfl, a5, _, rfl, .inl (SqL.of ga7), l, seed, c6, 27, rfl, S7, by omega, by decide, by decide, fun z8 c8 H8 z80 z81 S8 hc8 k8 => ?_⟩
      obtain ⟨u, um, ua⟩ := at_ex (someT.map V.str) z80 (by rw [List.length_map]; exact z81)
      obtain ⟨U, mU, rfl⟩ := List.mem_map.mp um
      obtain ⟨lU, lowU⟩ := someT_ok U mU
      refine ⟨a5, _, z8, .str U, rfl, rfl, SqL.of (k8 _ _ ga7 na5), ua, w1, fun b2 hb2 => ?_⟩
      have gb1' := k8 _ _ gb1 nb1
      have gp8 := k8 _ _ gp7 npl
      have k8' := k7.trans k8
      have sb2 := same_new (o := .lst [.str U]) hb2
      refine ⟨b1, b2, _, _, rfl, rfl, sb2 _ _ gb1', upd_same, by rw [List.length_map, List.length_take]; show min sp ps.length + 1 ≤ sizeLine; omega, fun b3 hb3 => ?_⟩
      have sb3 := sb2.trans (same_new (o := .lst ((ps.take sp).map V.str ++ [.str U])) hb3)
      have gb3 : (upd (upd H8 b2 (.lst [.str U])) b3 (.lst ((ps.take sp).map V.str ++ [.str U]))) b3 = some (.lst ((ps.take sp).map V.str ++ [.str U])) := upd_same
      have S9 := S8.same sb3
      have nb3 := (S8.same sb2).ne hb3
      have k9 := k8'.trans (Keep1.of sb3)
      have gp9 := sb3 _ _ gp8
      generalize upd (upd H8 b2 (.lst [.str U])) b3 (.lst ((ps.take sp).map V.str ++ [.str U])) = H9 at gb3 S9 k9 gp9 ⊢
      refine ⟨_, rfl, _, rfl, _, rfl, l, seed, c8, 2, rfl, S9, by omega, by decide, by decide, fun zd c10 H10 zd0 zd1 S10 hc10 k10 => ⟨(sp : Int), zd, rfl, rfl, _, rfl, noPart ⟨p, _, rfl, SqL.of (k10 _ _ gp9 npl), fun b4 hb4 => ?_⟩⟩⟩
      obtain ⟨dn, rfl⟩ : ∃ dn : Nat, zd = (dn : Int) := ⟨zd.toNat, by omega⟩
      have c1' : cutV (ps.map V.str) (some ((sp : Int) + (dn : Int))) none = (ps.drop (sp + dn)).map V.str := by
        rw [show ((sp : Int) + (dn : Int)) = ((sp + dn : Nat) : Int) by omega, cut_drop _ _ (by rw [List.length_map]; omega), List.map_drop]
      rw [c1']
      have gb3' := k10 _ _ gb3 nb3
      have sb4 := same_new (o := .lst ((ps.drop (sp + dn)).map V.str)) hb4
      have lsum : (((ps.take sp ++ [U]) ++ ps.drop (sp + dn)).map fun y => y.length).sum ≤ 3201 ∧ ((ps.take sp ++ [U]) ++ ps.drop (sp + dn)).length ≤ 6003 := by
        constructor
        · have e : (ps.map fun y => y.length).sum = ((ps.take (sp + dn)).map fun y => y.length).sum + ((ps.drop (sp + dn)).map fun y => y.length).sum := by
            rw [← List.sum_append, ← List.map_append, List.take_append_drop]
          have e2 : ((ps.take (sp + dn)).map fun y => y.length).sum = ((ps.take sp).map fun y => y.length).sum + (((ps.drop sp).take dn).map fun y => y.length).sum := by
            rw [List.take_add, List.map_append, List.sum_append]
          rw [List.map_append, List.map_append, List.sum_append, List.sum_append]
          simp only [List.map_cons, List.map_nil, List.sum_cons, List.sum_nil]
          omega
        · simp only [List.length_append, List.length_take, List.length_drop, List.length_cons, List.length_nil]
          omega
      refine ⟨b3, b4, _, _, rfl, rfl, sb4 _ _ gb3', upd_same, ?_, fun b5 hb5 => ?_⟩
      · simp only [List.length_append, List.length_map, List.length_take, List.length_drop, List.length_cons, List.length_nil]
        omega
      have sb5 := sb4.trans (same_new (o := .lst (((ps.take sp).map V.str ++ [.str U]) ++ (ps.drop (sp + dn)).map V.str)) hb5)
      have commaL : (", " : Str).length = 2 := by decide +kernel
      refine ⟨", ", b5, (ps.take sp ++ [U]) ++ ps.drop (sp + dn), rfl, rfl, .inl (SqL.of (by rw [upd_same, List.map_append, List.map_append]; rfl)), by rw [commaL]; omega, ?_⟩
      refine q _ c10 _ (S10.same sb5) (by omega) ((k9.trans k10).trans (Keep1.of sb5)) ?_ ?_
      · rw [TL.join_eq, TL.len_tl, TL.tl_join, signs_sep]
        have a := joinL_sum [44, 32] (((ps.take sp ++ [U]) ++ ps.drop (sp + dn)).map TL.tl)
        have e : ∀ (ys : List Str), ((ys.map TL.tl).map fun p => p.length + [44, 32].length).sum = (ys.map fun y => y.length).sum + 2 * ys.length := fun ys => by
          induction ys with
          | nil => rfl
          | cons y r ih =>
            simp only [List.map_cons, List.sum_cons, List.length_cons] at ih ⊢
            rw [ih, TL.len_tl]
            simp only [List.length_nil]
            omega
        rw [e] at a
        omega
      · rw [TL.join_eq, TL.tl_join, signs_sep]
        refine joinL_low (by decide) _ fun z hz => ?_
        obtain ⟨y, hy, rfl⟩ := List.mem_map.mp hz
        rcases List.mem_append.mp hy with h | h
        · rcases List.mem_append.mp h with h | h
          · exact lowps y (List.mem_of_mem_take h)
          · rw [List.mem_singleton.mp h]
            exact lowU
        · exact lowps y (List.mem_of_mem_drop h)
    · -- some signs are exchanged
      have sgl : ("0123^,, ^-+.x" : Str).length = 13 := by decide +kernel
      have sgt : (TL.tl ("0123^,, ^-+.x" : Str)).length = 13 := by decide +kernel
      refine ⟨_, rfl, l, seed, c1, 3, rfl, S1, by omega, by decide, by decide, fun z2 c2 H2 z20 z21 S2 hc2 k2 => ⟨1, z2, rfl, rfl, ?_⟩⟩
      have k02 := k1.trans k2
      refine ⟨_, rfl, by omega, by omega, ?_⟩
      refine for_range (lo := 0) (n := (1 + z2).toNat) (fun i σ H' => ∃ (W : Str) (cnt' : Int) (y2 y3 y4 y6 y7 y8 : Option V), σ = [some (.ref l), some (.str W), y2, y3, y4, some (.str "0123^,, ^-+.x"), y6, y7, y8] ∧ Rng H' l seed cnt' ∧ cnt' ≤ cnt + 2 + 4 * i ∧ (∀ b o, H b = some o → b ≠ l → H' b = some o) ∧ W.length ≤ 3000 + i ∧ Low7 (TL.tl W))
        ⟨x, c2, none, none, none, none, none, none, rfl, S2, by omega, k02, hx, low⟩ ?_ ?_
      · rintro i σ H3 hi ⟨W, c3, y2, y3, y4, y6, y7, y8, rfl, S3, hc3, k3, lW, lowW⟩
        have i3 : i < 3 := by omega
        refine ⟨_, rfl, _, rfl, W, rfl, by omega, _, 1, rfl, rfl, l, seed, c3, (W.length : Int) + 1, rfl, S3, by omega, by omega, lim10 (by omega), fun zc c4 H4 zc0 zc1 S4 hc4 k4 => ?_⟩
        obtain ⟨cut, rfl⟩ : ∃ cut : Nat, zc = (cut : Int) := ⟨zc.toNat, by omega⟩
        have cl : cut ≤ W.length := by omega
        refine ⟨_, rfl, _, rfl, _, rfl, "0123^,, ^-+.x", rfl, by rw [sgl]; omega, l, seed, c4, _, rfl, S4, by omega, by rw [sgl]; decide, lim10 (by rw [sgl]; decide), fun z5 c5 H5 z50 z51 S5 hc5 k5 => ?_⟩
        rw [sgl] at z51
        obtain ⟨sg, sgm, sga⟩ := at_ex (TL.tl ("0123^,, ^-+.x" : Str)) z50 (by rw [sgt]; exact z51)
        have sg7 := signs_low sg sgm
        refine ⟨_, z5, sg, rfl, rfl, by rw [sgl]; omega, sga, _, rfl, l, seed, c5, 2, rfl, S5, by omega, by decide, by decide, fun z6 c6 H6 z60 z61 S6 hc6 k6 => ?_⟩
        obtain ⟨mok, mt⟩ := mul_one (c := sg) z60 z61
        refine ⟨_, z6, rfl, rfl, mok, ?_⟩
        obtain ⟨SG, eSG⟩ : ∃ SG, SG = Txt.mul ⟨#[sg]⟩ z6 := ⟨_, rfl⟩
        rw [← eSG] at mt ⊢
        have lSG : SG.length ≤ 1 ∧ Low7 (TL.tl SG) := by
          rw [TL.len_tl]
          rcases mt with e | e
          · rw [e]
            exact ⟨Nat.zero_le _, fun c h => nomatch h⟩
          · rw [e]
            exact ⟨Nat.le_refl _, fun c h => by rw [List.mem_singleton.mp h]; exact sg7⟩
        obtain ⟨A, eA⟩ : ∃ A, A = cutS W none (some (cut : Int)) := ⟨_, rfl⟩
        have tA : TL.tl A = (TL.tl W).take cut := by rw [eA]; exact cutS_take W cut cl
        have lA : A.length ≤ cut := by rw [TL.len_tl, tA, List.length_take]; exact Nat.min_le_left _ _
        refine ⟨_, rfl, noPart ⟨_, rfl, _, rfl, W, rfl, by omega, ?_⟩⟩
        rw [← eA]
        refine ⟨_, rfl, _, _, rfl, rfl, by omega, _, rfl, _, rfl, _, rfl, l, seed, c6, 2, rfl, S6, by omega, by decide, by decide, fun z7 c7 H7 z70 z71 S7 hc7 k7 => ⟨(cut : Int), z7, rfl, rfl, _, rfl, noPart ⟨W, rfl, by omega, ?_⟩⟩⟩
        obtain ⟨dn, rfl⟩ : ∃ dn : Nat, z7 = (dn : Int) := ⟨z7.toNat, by omega⟩
        obtain ⟨D, eD⟩ : ∃ D, D = cutS W (some ((cut : Int) + (dn : Int))) none := ⟨_, rfl⟩
        have tD : TL.tl D = (TL.tl W).drop (cut + dn) := by rw [eD, show ((cut : Int) + (dn : Int)) = ((cut + dn : Nat) : Int) by omega]; exact cutS_drop W _
        have lD : D.length ≤ W.length - cut := by
          rw [TL.len_tl, tD, List.length_drop, ← TL.len_tl]
          omega
        rw [← eD]
        have lAS : (A ++ SG).length = A.length + SG.length := by rw [TL.len_tl, TL.tl_append, List.length_append, ← TL.len_tl, ← TL.len_tl]
        have lASD : (A ++ SG ++ D).length = A.length + SG.length + D.length := by rw [TL.len_tl, TL.tl_append, List.length_append, ← TL.len_tl, ← TL.len_tl, lAS]
        refine ⟨_, _, rfl, rfl, by omega, A ++ SG ++ D, c7, _, _, _, _, _, _, rfl, S7, by omega, fun b o e nb => k7 _ _ (k6 _ _ (k5 _ _ (k4 _ _ (k3 _ _ e nb) nb) nb) nb) nb, by omega, ?_⟩
        rw [TL.tl_append, TL.tl_append, tA, tD]
        exact Low7.app (Low7.app (fun c h => lowW c (List.mem_of_mem_take h)) lSG.2) (fun c h => lowW c (List.mem_of_mem_drop h))
      · rintro σ H3 ⟨W, c3, y2, y3, y4, y6, y7, y8, rfl, S3, hc3, k3, lW, lowW⟩
        exact ⟨_, rfl, q W c3 H3 S3 (by omega) k3 (by omega) lowW⟩
end
end Sq

set_option Elab.async false
set_option linter.all false
set_option maxRecDepth 100000
set_option maxHeartbeats 4000000
set_option exponentiation.threshold 2000
namespace Sq
open PySem PySem.Spec PyProof.Rows L2
open NumText (digitsVal AllDigits)
theorem joinL_all {Pc : Nat → Prop} {S : List Nat} (hS : ∀ c ∈ S, Pc c) : ∀ (ps : List (List Nat)), (∀ p ∈ ps, ∀ c ∈ p, Pc c) → ∀ c ∈ TL.joinL S ps, Pc c
  | [], _, c, h => nomatch h
  | [p], h, c, hc => h p List.mem_cons_self c hc
  | p :: q :: r, h, c, hc => by
    have hc' : c ∈ p ++ (S ++ TL.joinL S (q :: r)) := hc
    rcases List.mem_append.mp hc' with z | z
    · exact h p List.mem_cons_self c z
    · rcases List.mem_append.mp z with z | z
      · exact hS c z
      · exact joinL_all hS (q :: r) (fun p hp => h p (List.mem_cons_of_mem _ hp)) c z
/-- a text that may be read -/
def Fit (x : Str) : Prop := x.length ≤ 4000 ∧ Low7 (TL.tl x) ∧ Small (TL.tl x)
theorem fit_join {ws : List Str} (hl : ws.length ≤ 1333) (h : ∀ x ∈ ws, x.length = 1 ∧ ∀ c ∈ TL.tl x, c < 94) : 3 * ws.length ≤ 4000 → Fit (Txt.join ", " ws) := fun h3 => by
  have all : ∀ c ∈ TL.tl (Txt.join ", " ws), c < 94 := by
    rw [TL.join_eq, TL.tl_join, signs_sep]
    refine joinL_all (Pc := fun c => c < 94) (by decide) _ fun p hp => ?_
    obtain ⟨x, hx, rfl⟩ := List.mem_map.mp hp
    exact (h x hx).2
  refine ⟨?_, fun c hc => by have := all c hc; omega, small_of fun q hq => ?_⟩
  · rw [TL.join_eq, TL.len_tl, TL.tl_join, signs_sep]
    have a := joinL_sum [44, 32] (ws.map TL.tl)
    have e : ∀ (ys : List Str), (∀ x ∈ ys, x.length = 1) → ((ys.map TL.tl).map fun p => p.length + [44, 32].length).sum = 3 * ys.length := fun ys => by
      induction ys with
      | nil => exact fun _ => rfl
      | cons y r ih =>
        intro h
        have h1 := h y List.mem_cons_self
        rw [TL.len_tl] at h1
        have h2 := ih fun x hx => h x (List.mem_cons_of_mem _ hx)
        simp only [List.map_cons, List.sum_cons, List.length_cons, List.length_nil] at h2 ⊢
        omega
    rw [e ws fun x hx => (h x hx).1] at a
    omega
  · have n : 94 ∉ TL.tl (Txt.join ", " ws) := fun z => by have := all 94 z; omega
    rw [spl_free n] at hq
    cases hq
def fixedT : List Str := ["", " ", "none ", "None", "0", "1", "2, 2", "2^2, 2", "2 , 3", "2,3", "none, 2", "2, none", "2^1"]
theorem fixedT_ok : ∀ x ∈ fixedT, Fit x := by
  have key : (fixedT.all fun x => decide (x.length ≤ 4000) && ((TL.tl x).all (fun c => decide (c < 128)) && (TL.spl [94] 0 [] (TL.tl x)).tail.all fun q => decide ((dpre q).length ≤ 3))) = true := by decide +kernel
  intro x hx
  have := List.all_eq_true.mp key x hx
  rw [Bool.and_eq_true, Bool.and_eq_true] at this
  exact ⟨of_decide_eq_true this.1, fun c hc => of_decide_eq_true (List.all_eq_true.mp this.2.1 c hc), small_of fun q hq => of_decide_eq_true (List.all_eq_true.mp this.2.2 q hq)⟩
def wordsT : List Str := (List.replicate 666 (["2", "3"] : List Str)).flatten
theorem wordsT_ok : wordsT.length = 1332 ∧ ∀ x ∈ wordsT, x.length = 1 ∧ ∀ c ∈ TL.tl x, c < 94 := by
  refine ⟨?_, fun x hx => ?_⟩
  · unfold wordsT
    rw [List.length_flatten, List.map_replicate, List.sum_replicate_nat]
    rfl
  · unfold wordsT at hx
    obtain ⟨r, h1, h2⟩ := List.mem_flatten.mp hx
    rw [(List.mem_replicate.mp h1).2] at h2
    have key : ((["2", "3"] : List Str).all fun x => decide (x.length = 1) && (TL.tl x).all fun c => decide (c < 94)) = true := by decide +kernel
    have := List.all_eq_true.mp key x h2
    rw [Bool.and_eq_true] at this
    exact ⟨of_decide_eq_true this.1, fun c hc => of_decide_eq_true (List.all_eq_true.mp this.2 c hc)⟩
section
variable {P : Program} {w : World} {K : PySem.W.Frag} {mg : Str → Option Value} {base : Heap}
def spLaw (K : PySem.W.Frag) : Sp := fun vs H Q _ => ∃ (a : Addr) (ns : List Int), vs = [.ref a] ∧ SqL K H a (ns.map V.int) ∧ ns.length ≤ 63 ∧ ∀ H', Q (.bl true) H'
theorem ok_law {f : Addr} {fd : FuncData} (F : Fun K "law" "law" s_law f fd) (B : Bi mg) (D_lawrng : Df P w K mg base 1 "_law_rng" ["script"] (spRng K)) (D_lawdraw : Df P w K mg base 1 "_law_draw" ["rng", "limit"] spDraw)
    (D_lawparts : Df P w K mg base 2 "_law_parts" ["rng"] spParts) (D_lawbent : Df P w K mg base 2 "_law_bent" ["rng", "written"] spBent) (D_lawsmall : Df P w K mg base 1 "_law_small" ["written"] spSmall) (D_lawright : Dg P w K mg base 5 "_law_right" ["one"] spRight) : Top P w K mg base 6 f fd "script" (spLaw K) := by
  refine atTop F sc_law ⟨rfl, by decide, by decide⟩ (fun vs H Q E h => ?_) (fun cdv outer s H vs Q E hr h => ?_)
  · obtain ⟨a, ns, rfl, _⟩ := h
    rfl
  · obtain ⟨a, ns, rfl, hS, hn, q⟩ := h
    refine ⟨_, (pss_cons (ps_set (i := 1) sc_law.nd rfl (Or.inl rfl) (pe_callD D_lawrng (hr.mono (by omega)) (by rfl) (pa_cons (pv 0) pa_nil)))
 (pss_cons (ps_for PassesOwn.never rfl (pi_range1 (by rfl) B.n_range (pa_cons (pe_op op_add pe_int (pe_callB (id := "min") (call_min2 rfl) (by rfl) B.n_min (by decide +kernel) (pa_cons pe_int (pa_cons (pe_callB (id := "len") (r := rLenK K) call_lenK (by rfl) B.n_len (by decide +kernel) (pa_cons (pv 0) pa_nil)) pa_nil)))) pa_nil)) (pg_name (i := 2) sc_law.nd rfl (Or.inl rfl))
 (pss_cons (ps_set (i := 3) sc_law.nd rfl (Or.inl rfl) (pe_callD D_lawparts (hr.mono (by omega)) (by rfl) (pa_cons (pv 1) pa_nil)))
 (pss_cons (ps_set (i := 4) sc_law.nd rfl (Or.inl rfl) (pe_ifExp (pt_cmpR (op_neD hr.units) (pv 3) (pe_lst pa_nil) (nomark _)) (pe_join pe_str (pv 3)) pe_str))
 (pss_cons (ps_set (i := 5) sc_law.nd rfl (Or.inl rfl) (pe_lst (pa_cons (pv 4) (pa_cons (pe_callD D_lawbent (hr.mono (by omega)) (by rfl) (pa_cons (pv 1) (pa_cons (pv 4) pa_nil))) (pa_cons (pe_callD D_lawbent (hr.mono (by omega)) (by rfl) (pa_cons (pv 1) (pa_cons (pv 4) pa_nil))) (pa_cons (pe_callD D_lawbent (hr.mono (by omega)) (by rfl) (pa_cons (pv 1) (pa_cons (pv 4) pa_nil))) pa_nil))))))
 (pss_one (ps_if (pt_cmpR (op_neD hr.units) (pe_lc (own := [("one", 6)]) (g := gName 6) rfl sc_law.nd (pi_list (pv 5)) (blkOk_by (own := [("one", 6)]) (N := ["script", "rng", "lap", "words", "written", "some", "one", "spot", "fixed"]) (sc := defScope s_law) (by decide +kernel)) (fun _ _ _ _ _ => (pg_name (i := 6) sc_law.nd rfl (Or.inl rfl))) (fun _ _ _ _ _ => pts_one (PW.pt (pw_and (pt_val (pe_callD D_lawsmall (hr.mono (by omega)) (by rfl) (pa_cons (pv 6) pa_nil))) (pw_and (pt_cmpR op_le (pe_callB (id := "len") call_len_str (by rfl) B.n_len (by decide +kernel) (pa_cons (pv 6) pa_nil)) pe_int (nomark _)) (pw_and1 (pt_not (pt_val (pe_callG D_lawright (hr.mono (by omega)) rfl (by rfl) (pa_cons (pv 6) pa_nil))))))))) (fun _ _ _ _ _ => (pv 6))) (pe_lst pa_nil) (nomark _))
 (pss_one (ps_ret pe_bl))
 pss_nil))))))
 (pss_cons (ps_set (i := 3) sc_law.nd rfl (Or.inl rfl) (pe_op op_rep (pe_lst (pa_cons pe_str (pa_cons pe_str pa_nil))) pe_int))
 (pss_cons (ps_set (i := 7) sc_law.nd rfl (Or.inl rfl) (pe_op op_sub (pe_op op_sub (pe_callB (id := "len") (r := rLenK K) call_lenK (by rfl) B.n_len (by decide +kernel) (pa_cons (pv 3) pa_nil)) pe_int) (pe_callD D_lawdraw (hr.mono (by omega)) (by rfl) (pa_cons (pv 1) (pa_cons pe_int pa_nil)))))
 (pss_cons (ps_set (i := 5) sc_law.nd rfl (Or.inl rfl) (pe_lst (pa_cons (pe_join pe_str (pv 3)) (pa_cons (pe_join pe_str (pe_op op_cat (pe_op op_cat (pe_slice sl_list (pv 3) po_none (po_some (pv 7))) (pe_lst (pa_cons pe_str pa_nil))) (pe_slice sl_list (pv 3) (po_some (pe_op op_add (pv 7) pe_int)) po_none))) pa_nil))))
 (pss_cons (ps_expr (pe_bm PySem.F.plainAttrs_list PySem.F.slot_list_append PySem.F.type_list_append mt_append (pv 5) (pa_cons (pe_join pe_str (pe_op op_cat (pe_slice sl_list (pv 3) po_none (po_some (pv 7))) (pe_slice sl_list (pv 3) (po_some (pe_op op_add (pv 7) pe_int)) po_none))) pa_nil)))
 (pss_cons (ps_set (i := 8) sc_law.nd rfl (Or.inl rfl) (pe_lst (pa_cons pe_str (pa_cons pe_str (pa_cons pe_str (pa_cons pe_str (pa_cons pe_str (pa_cons pe_str (pa_cons pe_str (pa_cons pe_str (pa_cons pe_str (pa_cons pe_str (pa_cons pe_str (pa_cons pe_str (pa_cons pe_str pa_nil)))))))))))))))
 (pss_one (ps_ret (pe_cmpR (op_eqD hr.units) (pe_lc (own := [("one", 6)]) (g := gName 6) rfl sc_law.nd (pi_list (pe_op op_cat (pv 5) (pv 8))) (blkOk_by (own := [("one", 6)]) (N := ["script", "rng", "lap", "words", "written", "some", "one", "spot", "fixed"]) (sc := defScope s_law) (by decide +kernel)) (fun _ _ _ _ _ => (pg_name (i := 6) sc_law.nd rfl (Or.inl rfl))) (fun _ _ _ _ _ => pts_one (pt_not (pt_val (pe_callG D_lawright (hr.mono (by omega)) rfl (by rfl) (pa_cons (pv 6) pa_nil))))) (fun _ _ _ _ _ => (pv 6))) (pe_lst pa_nil) (nomark _))))))))))), ?_⟩
    have lim : sizeLine = 16777216 := sizeLine_eq
    have w4 : 4 ≤ sizeLine := by omega
    refine ⟨_, rfl, a, ns, rfl, hS, hn, fun l seed H1 hl s1 S1 => ?_⟩
    refine ⟨_, rfl, a, _, rfl, .inl (s1.seq hS), 12, _, rfl, 6, _, rfl, rfl, ?_⟩
    rw [List.length_map]
    obtain ⟨N, eN⟩ : ∃ N, N = 6 + (if (ns.length : Int) < 12 then (ns.length : Int) else 12) := ⟨_, rfl⟩
    have hN : 6 ≤ N ∧ N ≤ 18 := by
      rw [eN]
      split <;> omega
    refine ⟨N, by subst eN; rfl, by omega, by omega, for_range (lo := 0) (n := N.toNat) (fun i σ H' => ∃ cnt y2 y3 y4 y5 y6 y7 y8, σ = [some (.ref a), some (.ref l), y2, y3, y4, y5, y6, y7, y8] ∧ Rng H' l seed cnt ∧ cnt ≤ 300 * i)
      ⟨0, none, none, none, none, none, none, none, rfl, S1, by omega⟩ ?_ ?_⟩
    · rintro i σ H2 hi ⟨cnt, y2, y3, y4, y5, y6, y7, y8, rfl, S2, hc2⟩
      refine ⟨_, rfl, l, seed, cnt, rfl, S2, by omega, fun p ws c3 H3 np S3 hc3 k3 gp lw hw => ?_⟩
      -- written
      refine tellNx (fun σ2 H' => ∃ W : Str, σ2 = [some (.ref a), some (.ref l), some (.int (0 + (i : Int))), some (.ref p), some (.str W), y5, y6, y7, y8] ∧ Same H3 H' ∧ W.length ≤ 3000 ∧ Low7 (TL.tl W)) (fun N hN => ?_) (fun σ2 H4 h => ?_)
      · refine ⟨_, rfl, z0L, fun u hu => ?_⟩
        have su := same_new (o := .lst []) hu
        refine ⟨.list (ws.map PyData.str), .list [], .lst (SqL.of (su _ _ gp)) (dp_strs ws), .lst (SqL.of upd_same) .nil, sh_strs ws (fun x hx => (hw x hx).2), rfl, _, rfl, ?_⟩
        cases ws with
        | nil => exact iteF (hN _ _ ⟨"none", rfl, su, by decide +kernel, fun c hc => by
            rw [show TL.tl ("none" : Str) = [110, 111, 110, 101] by decide +kernel] at hc
            simp only [List.mem_cons, List.not_mem_nil, or_false] at hc
            omega⟩)
        | cons x r =>
          have sum : ((x :: r).map fun y => y.length).sum ≤ 210 * (x :: r).length := by
            have key : ∀ (ys : List Str), (∀ y ∈ ys, y.length ≤ 210) → (ys.map fun y => y.length).sum ≤ 210 * ys.length := fun ys => by
              induction ys with
              | nil => exact fun _ => Nat.le_refl _
              | cons y t ih =>
                intro h
                have h1 := h y List.mem_cons_self
                have h2 := ih fun z hz => h z (List.mem_cons_of_mem _ hz)
                simp only [List.map_cons, List.sum_cons, List.length_cons] at h2 ⊢
                omega
            exact key _ fun y hy => (hw y hy).1
          have commaL : (", " : Str).length = 2 := by decide +kernel
          refine iteT ⟨⟨_, rfl⟩, _, rfl, ", ", p, x :: r, rfl, rfl, .inl (SqL.of (su _ _ gp)), by rw [commaL]; omega, hN _ _ ⟨_, rfl, su, ?_, ?_⟩⟩
          · rw [TL.join_eq, TL.len_tl, TL.tl_join, signs_sep]
            have a := joinL_sum [44, 32] ((x :: r).map TL.tl)
            have e : ∀ (ys : List Str), ((ys.map TL.tl).map fun p => p.length + [44, 32].length).sum = (ys.map fun y => y.length).sum + 2 * ys.length := fun ys => by
              induction ys with
              | nil => rfl
              | cons y r ih =>
                simp only [List.map_cons, List.sum_cons, List.length_cons] at ih ⊢
                rw [ih, TL.len_tl]
                simp only [List.length_nil]
                omega
            rw [e] at a
            omega
          · rw [TL.join_eq, TL.tl_join, signs_sep]
            refine joinL_low (by decide) _ fun z hz => ?_
            obtain ⟨y, hy, rfl⟩ := List.mem_map.mp hz
            exact (hw y hy).2
      obtain ⟨W, rfl, s34, lW, lowW⟩ := h
      have S4 := S3.same s34
      -- some
      refine ⟨_, rfl, _, rfl, _, rfl, l, seed, c3, W, rfl, S4, by omega, lW, lowW, fun b1 c5 H5 S5 hc5 k5 lb1 low1 => ?_⟩
      refine ⟨_, rfl, _, rfl, l, seed, c5, W, rfl, S5, by omega, lW, lowW, fun b2 c6 H6 S6 hc6 k6 lb2 low2 => ?_⟩
      refine ⟨_, rfl, _, rfl, l, seed, c6, W, rfl, S6, by omega, lW, lowW, fun b3 c7 H7 S7 hc7 k7 lb3 low3 => ⟨w4, fun t ht => ?_⟩⟩
      have S8 := S7.same (same_new (o := .lst [.str W, .str b1, .str b2, .str b3]) ht)
      have gt : (upd H7 t (.lst [.str W, .str b1, .str b2, .str b3])) t = some (.lst [.str W, .str b1, .str b2, .str b3]) := upd_same
      generalize upd H7 t (.lst [.str W, .str b1, .str b2, .str b3]) = H8 at S8 gt ⊢
      refine ⟨_, rfl, t, rfl, ⟨_, SqL.of gt⟩, fun D hD => lc_list (K := K) (a := t) (xs := [V.str W, V.str b1, V.str b2, V.str b3]) (fun e Hc => Same H8 (wo Hc D) ∧ Hc D = some (.lst [])) ⟨by rw [wo_upd]; exact same_wo (Same.refl _) hD, upd_same⟩ (fun i Hc _ h => SqL.of (h.1.trans wo_same _ _ gt)) ?_ ?_⟩
      · rintro e v Hc he ⟨sc, hcD⟩
        have e4 : e < 4 := (List.getElem?_eq_some_iff.mp he).1
        obtain ⟨x, rfl, lx, lowx⟩ : ∃ x, v = .str x ∧ x.length ≤ 20000 ∧ Low7 (TL.tl x) := by
          have : e = 0 ∨ e = 1 ∨ e = 2 ∨ e = 3 := by omega
          rcases this with rfl | rfl | rfl | rfl <;> cases he
          · exact ⟨_, rfl, by omega, lowW⟩
          · exact ⟨_, rfl, lb1, low1⟩
          · exact ⟨_, rfl, lb2, low2⟩
          · exact ⟨_, rfl, lb3, low3⟩
        have stay : ∀ G, Same Hc G → Same H8 (wo G D) ∧ G D = some (.lst []) := fun G sG => ⟨sc.trans (same_wo (wo_same.trans sG) wo_self), sG _ _ hcD⟩
        refine ⟨rfl, _, rfl, x, rfl, by omega, fun b G sG few => ?_⟩
        refine ⟨_, rfl, ?_⟩
        cases b with
        | false => exact iteF (stay G sG)
        | true =>
          refine iteT ⟨_, rfl, x, rfl, by omega, _, _, rfl, rfl, _, rfl, ?_⟩
          by_cases c : (x.length : Int) ≤ 4000
          · rw [decide_eq_true c]
            refine iteT ⟨_, rfl, x, rfl, by omega, lowx, small_of (few rfl), fun G2 sG2 => ?_⟩
            exact ⟨_, rfl, iteF (stay G2 (sG.trans sG2))⟩
          · rw [decide_eq_false c]
            exact iteF (stay G sG)
      · rintro Hc ⟨sc, hcD⟩
        have s8c := sc.trans wo_same
        refine ⟨z0L, fun u hu => ?_⟩
        refine ⟨.list [], .list [], .lst (SqL.of (same_new hu _ _ hcD)) .nil, .lst (SqL.of upd_same) .nil, rfl, rfl, _, rfl, ?_⟩
        rw [show PyData.eqv (.list []) (.list []) = true from rfl]
        exact iteF ⟨c7, _, _, _, _, _, _, _, rfl, S8.same (s8c.trans (same_new hu)), by omega⟩
    · rintro σ H2 ⟨cnt, y2, y3, y4, y5, y6, y7, y8, rfl, S2, hc2⟩
      have w2 : 2 ≤ sizeLine := by omega
      have w1 : 1 ≤ sizeLine := by omega
      have commaL : (", " : Str).length = 2 := by decide +kernel
      obtain ⟨wl, wo1⟩ := wordsT_ok
      refine ⟨w2, fun e he => ⟨e, 666, _, rfl, rfl, upd_same, by decide, by decide, by show 2 * 666 ≤ sizeLine; omega, fun r hr0 => ?_⟩⟩
      have ew : (List.replicate (666 : Int).toNat [V.str "2", V.str "3"]).flatten = wordsT.map V.str := by
        unfold wordsT
        rw [List.map_flatten, List.map_replicate]
        rfl
      rw [ew]
      have s3 := (same_new (o := .lst [V.str "2", V.str "3"]) he).trans (same_new (o := .lst (wordsT.map V.str)) hr0)
      have g3 : (upd (upd H2 e (.lst [V.str "2", V.str "3"])) r (.lst (wordsT.map V.str))) r = some (.lst (wordsT.map V.str)) := upd_same
      have S3 := S2.same s3
      have nrl := (S2.same (same_new (o := .lst [V.str "2", V.str "3"]) he)).ne hr0
      generalize upd (upd H2 e (.lst [V.str "2", V.str "3"])) r (.lst (wordsT.map V.str)) = H3 at g3 S3 ⊢
      refine ⟨_, rfl, r, _, rfl, .inl (SqL.of g3), _, 1, rfl, rfl, _, rfl, l, seed, cnt, 300, rfl, S3, by omega, by decide, by decide, fun z c4 H4 z0 z1 S4 hc4 k4 => ⟨_, z, rfl, rfl, ?_⟩⟩
      have g4 := k4 _ _ g3 nrl
      obtain ⟨sp, esp⟩ : ∃ sp : Nat, ((wordsT.map V.str).length : Int) - 1 - z = (sp : Int) := ⟨(1331 - z).toNat, by rw [List.length_map, wl]; omega⟩
      have spl : sp < 1332 := by rw [List.length_map, wl] at esp; omega
      dsimp only
      rw [esp]
      clear z1 z0
      -- the three long texts
      have one_ok : ∀ (ys : List Str), (∀ y ∈ ys, y = "1" ∨ y ∈ wordsT) → ∀ x ∈ ys, x.length = 1 ∧ ∀ c ∈ TL.tl x, c < 94 := fun ys h x hx => by
        rcases h x hx with e | e
        · rw [e]
          refine ⟨by decide +kernel, fun c hc => ?_⟩
          rw [show TL.tl ("1" : Str) = [49] by decide +kernel] at hc
          rw [List.mem_singleton.mp hc]
          decide
        · exact wo1 x e
      have sum1 : ∀ (ys : List Str), (∀ x ∈ ys, x.length = 1 ∧ ∀ c ∈ TL.tl x, c < 94) → (ys.map fun x => x.length).sum = ys.length := fun ys => by
        induction ys with
        | nil => exact fun _ => rfl
        | cons y t ih =>
          intro h
          have h1 := (h y List.mem_cons_self).1
          have h2 := ih fun x hx => h x (List.mem_cons_of_mem _ hx)
          simp only [List.map_cons, List.sum_cons, List.length_cons] at h2 ⊢
          omega
      have ct : cutV (wordsT.map V.str) none (some (sp : Int)) = (wordsT.take sp).map V.str := by rw [cut_take _ _ (by rw [List.length_map]; omega), List.map_take]
      have cd : cutV (wordsT.map V.str) (some ((sp : Int) + 1)) none = (wordsT.drop (sp + 1)).map V.str := by
        rw [show ((sp : Int) + 1) = ((sp + 1 : Nat) : Int) by omega, cut_drop _ _ (by rw [List.length_map]; omega), List.map_drop]
      have lt : (wordsT.take sp).length = sp := by rw [List.length_take]; omega
      have ld : (wordsT.drop (sp + 1)).length = 1331 - sp := by rw [List.length_drop, wl]; omega
      have ok1 : ∀ x ∈ (wordsT.take sp ++ [("1" : Str)]) ++ wordsT.drop (sp + 1), x.length = 1 ∧ ∀ c ∈ TL.tl x, c < 94 := one_ok _ fun y hy => by
        rcases List.mem_append.mp hy with h | h
        · rcases List.mem_append.mp h with h | h
          · exact .inr (List.mem_of_mem_take h)
          · exact .inl (List.mem_singleton.mp h)
        · exact .inr (List.mem_of_mem_drop h)
      have ok2 : ∀ x ∈ wordsT.take sp ++ wordsT.drop (sp + 1), x.length = 1 ∧ ∀ c ∈ TL.tl x, c < 94 := one_ok _ fun y hy => by
        rcases List.mem_append.mp hy with h | h
        · exact .inr (List.mem_of_mem_take h)
        · exact .inr (List.mem_of_mem_drop h)
      have ln1 : ((wordsT.take sp ++ [("1" : Str)]) ++ wordsT.drop (sp + 1)).length = 1332 := by
        rw [List.length_append, List.length_append, lt, ld]
        show sp + 1 + (1331 - sp) = 1332
        omega
      have ln2 : (wordsT.take sp ++ wordsT.drop (sp + 1)).length = 1331 := by
        rw [List.length_append, lt, ld]
        omega
      have F0 : Fit (Txt.join ", " wordsT) := fit_join (by omega) wo1 (by omega)
      have F1 : Fit (Txt.join ", " ((wordsT.take sp ++ [("1" : Str)]) ++ wordsT.drop (sp + 1))) := fit_join (by omega) ok1 (by omega)
      have F2 : Fit (Txt.join ", " (wordsT.take sp ++ wordsT.drop (sp + 1))) := fit_join (by omega) ok2 (by omega)
      obtain ⟨J0, eJ0⟩ : ∃ J, J = Txt.join ", " wordsT := ⟨_, rfl⟩
      obtain ⟨J1, eJ1⟩ : ∃ J, J = Txt.join ", " ((wordsT.take sp ++ [("1" : Str)]) ++ wordsT.drop (sp + 1)) := ⟨_, rfl⟩
      obtain ⟨J2, eJ2⟩ : ∃ J, J = Txt.join ", " (wordsT.take sp ++ wordsT.drop (sp + 1)) := ⟨_, rfl⟩
      rw [← eJ0] at F0
      rw [← eJ1] at F1
      rw [← eJ2] at F2
      refine ⟨⟨_, rfl⟩, _, rfl, ", ", r, wordsT, rfl, rfl, .inl (SqL.of g4), by rw [commaL, sum1 _ wo1]; omega, ?_⟩
      rw [← eJ0]
      refine ⟨⟨_, rfl⟩, _, rfl, noPart ⟨_, rfl, _, rfl, r, _, rfl, SqL.of g4, fun b1 hb1 => ?_⟩⟩
      rw [ct]
      refine ⟨w1, fun b2 hb2 => ⟨b1, b2, _, _, rfl, rfl, same_new hb2 _ _ upd_same, upd_same, by rw [List.length_map, lt]; show sp + 1 ≤ sizeLine; omega, fun b3 hb3 => ?_⟩⟩
      have s5 := ((same_new (o := .lst ((wordsT.take sp).map V.str)) hb1).trans (same_new (o := .lst [V.str "1"]) hb2)).trans (same_new (o := .lst ((wordsT.take sp).map V.str ++ [V.str "1"])) hb3)
      have g5 := s5 _ _ g4
      have S5 := S4.same s5
      have gb3 : (upd (upd (upd H4 b1 (.lst ((wordsT.take sp).map V.str))) b2 (.lst [V.str "1"])) b3 (.lst ((wordsT.take sp).map V.str ++ [V.str "1"]))) b3 = some (.lst ((wordsT.take sp).map V.str ++ [V.str "1"])) := upd_same
      generalize upd (upd (upd H4 b1 (.lst ((wordsT.take sp).map V.str))) b2 (.lst [V.str "1"])) b3 (.lst ((wordsT.take sp).map V.str ++ [V.str "1"])) = H5 at g5 S5 gb3 ⊢
      refine ⟨_, rfl, _, rfl, _, 1, rfl, rfl, _, rfl, noPart ⟨r, _, rfl, SqL.of g5, fun b4 hb4 => ?_⟩⟩
      rw [cd]
      refine ⟨b3, b4, _, _, rfl, rfl, same_new hb4 _ _ gb3, upd_same, by rw [List.length_append, List.length_map, List.length_map, lt, ld]; show sp + 1 + (1331 - sp) ≤ sizeLine; omega, fun b5 hb5 => ?_⟩
      have s6 := (same_new (o := .lst ((wordsT.drop (sp + 1)).map V.str)) hb4).trans (same_new (o := .lst (((wordsT.take sp).map V.str ++ [V.str "1"]) ++ (wordsT.drop (sp + 1)).map V.str)) hb5)
      refine ⟨", ", b5, (wordsT.take sp ++ [("1" : Str)]) ++ wordsT.drop (sp + 1), rfl, rfl, .inl (SqL.of (by rw [upd_same, List.map_append, List.map_append]; rfl)), by rw [commaL, sum1 _ ok1]; omega, ?_⟩
      rw [← eJ1]
      refine ⟨w2, fun t ht => ?_⟩
      have s7 := s6.trans (same_new (o := .lst [V.str J0, V.str J1]) ht)
      have g7 := s7 _ _ g5
      have S7 := S5.same s7
      have gt : (upd (upd (upd H5 b4 (.lst ((wordsT.drop (sp + 1)).map V.str))) b5 (.lst (((wordsT.take sp).map V.str ++ [V.str "1"]) ++ (wordsT.drop (sp + 1)).map V.str))) t (.lst [V.str J0, V.str J1])) t = some (.lst [V.str J0, V.str J1]) := upd_same
      generalize upd (upd (upd H5 b4 (.lst ((wordsT.drop (sp + 1)).map V.str))) b5 (.lst (((wordsT.take sp).map V.str ++ [V.str "1"]) ++ (wordsT.drop (sp + 1)).map V.str))) t (.lst [V.str J0, V.str J1]) = H7 at g7 S7 gt ⊢
      refine ⟨_, rfl, .inl ⟨rfl, _, SqL.of gt⟩, ⟨_, rfl⟩, _, rfl, noPart ⟨_, rfl, _, rfl, r, _, rfl, SqL.of g7, fun b1 hb1 => ?_⟩⟩
      rw [ct]
      have g8 := same_new (o := .lst ((wordsT.take sp).map V.str)) hb1 _ _ g7
      refine ⟨_, rfl, _, rfl, _, 1, rfl, rfl, _, rfl, noPart ⟨r, _, rfl, SqL.of g8, fun b2 hb2 => ?_⟩⟩
      rw [cd]
      refine ⟨b1, b2, _, _, rfl, rfl, same_new hb2 _ _ upd_same, upd_same, by rw [List.length_map, List.length_map, lt, ld]; omega, fun b3 hb3 => ?_⟩
      have s9 := ((same_new (o := .lst ((wordsT.take sp).map V.str)) hb1).trans (same_new (o := .lst ((wordsT.drop (sp + 1)).map V.str)) hb2)).trans (same_new (o := .lst ((wordsT.take sp).map V.str ++ (wordsT.drop (sp + 1)).map V.str)) hb3)
      have gt9 := s9 _ _ gt
      refine ⟨", ", b3, wordsT.take sp ++ wordsT.drop (sp + 1), rfl, rfl, .inl (SqL.of (by rw [upd_same, List.map_append])), by rw [commaL, sum1 _ ok2]; omega, ?_⟩
      rw [← eJ2]
      refine ⟨t, _, _, rfl, rfl, gt9, by show 2 < sizeLine; omega, ?_⟩
      have gt10 : (upd (upd (upd (upd H7 b1 (.lst ((wordsT.take sp).map V.str))) b2 (.lst ((wordsT.drop (sp + 1)).map V.str))) b3 (.lst ((wordsT.take sp).map V.str ++ (wordsT.drop (sp + 1)).map V.str))) t (.lst ([V.str J0, V.str J1] ++ [V.str J2]))) t = some (.lst ([J0, J1, J2].map V.str)) := upd_same
      generalize upd (upd (upd (upd H7 b1 (.lst ((wordsT.take sp).map V.str))) b2 (.lst ((wordsT.drop (sp + 1)).map V.str))) b3 (.lst ((wordsT.take sp).map V.str ++ (wordsT.drop (sp + 1)).map V.str))) t (.lst ([V.str J0, V.str J1] ++ [V.str J2])) = H10 at gt10 ⊢
      -- all of them
      refine ⟨by show 13 ≤ sizeLine; omega, fun fx hfx => ?_⟩
      rw [show (HO.lst [V.str "", V.str " ", V.str "none ", V.str "None", V.str "0", V.str "1", V.str "2, 2", V.str "2^2, 2", V.str "2 , 3", V.str "2,3", V.str "none, 2", V.str "2, none", V.str "2^1"]) = .lst (fixedT.map V.str) from rfl]
      refine ⟨_, rfl, _, rfl, t, fx, _, _, rfl, rfl, same_new hfx _ _ gt10, upd_same, by show 3 + 13 ≤ sizeLine; omega, fun al hal => ?_⟩
      have gal : (upd (upd H10 fx (.lst (fixedT.map V.str))) al (.lst ([J0, J1, J2].map V.str ++ fixedT.map V.str))) al = some (.lst (([J0, J1, J2] ++ fixedT).map V.str)) := by rw [upd_same, List.map_append]
      generalize upd (upd H10 fx (.lst (fixedT.map V.str))) al (.lst ([J0, J1, J2].map V.str ++ fixedT.map V.str)) = H11 at gal ⊢
      refine ⟨al, rfl, ⟨_, SqL.of gal⟩, fun D hD => lc_list (K := K) (a := al) (xs := ([J0, J1, J2] ++ fixedT).map V.str) (fun e Hc => Same H11 (wo Hc D) ∧ Hc D = some (.lst [])) ⟨by rw [wo_upd]; exact same_wo (Same.refl _) hD, upd_same⟩ (fun i Hc _ h => SqL.of (h.1.trans wo_same _ _ gal)) ?_ ?_⟩
      · rintro e v Hc he ⟨sc, hcD⟩
        obtain ⟨x, hx, rfl⟩ := str_at he
        have fx : Fit x := by
          rcases List.mem_append.mp (List.mem_of_getElem? hx) with h | h
          · simp only [List.mem_cons, List.not_mem_nil, or_false] at h
            rcases h with rfl | rfl | rfl
            · exact F0
            · exact F1
            · exact F2
          · exact fixedT_ok x h
        refine ⟨rfl, _, rfl, x, rfl, fx.1, fx.2.1, fx.2.2, fun G sG => ?_⟩
        exact ⟨_, rfl, iteF ⟨sc.trans (same_wo (wo_same.trans sG) wo_self), sG _ _ hcD⟩⟩
      · rintro Hc ⟨sc, hcD⟩
        refine ⟨z0L, fun u hu => ?_⟩
        refine ⟨.list [], .list [], .lst (SqL.of (same_new hu _ _ hcD)) .nil, .lst (SqL.of upd_same) .nil, rfl, rfl, ?_⟩
        rw [show PyData.eqv (.list []) (.list []) = true from rfl]
        exact q _
end
end Sq

set_option Elab.async false
set_option linter.all false
set_option maxRecDepth 100000
set_option maxHeartbeats 4000000
set_option exponentiation.threshold 2000
namespace Sq
open PySem PySem.Spec PyProof.Rows L2
theorem kb_readlist {K : PySem.W.Frag} {f : Addr} {fd : FuncData} (F : Fun K "read_list" "read_list" s_readlist f fd) : KBn K fd ["text"] 0 ["text"] (fun us ws => us ++ ws) (fun us zs => us ++ zs) :=
  kbn_mk F _ _ _ vals_app fun _ _ _ _ _ _ ws hl => match ws, hl with | [_], _ => rfl
end Sq

set_option Elab.async false
set_option linter.all false
set_option maxRecDepth 100000
set_option maxHeartbeats 4000000
namespace Sq
open PySem PySem.Spec PyProof.Rows L2
theorem all_mk {l : PySem.W.OpenLaw} {w : World} {K : PySem.W.Frag} {h : Heap} {mg : Str → Option Value} {fa : Addr} (X : K.In h) (G : h.Ns mainGlobals mg) (hfa : mg "law" = some (.ref fa))
    {f_readlist : Addr} {od_readlist an_readlist : Option Addr} {sl_readlist : Array (Option Value)} {oc_readlist kV_readlist dc_readlist pm_readlist cd_readlist ct_readlist : Value}
    (a_readlist : PySem.W.nsIn K mainGlobals "read_list" = some (some (.ref f_readlist)))
    (l_readlist : K.lookup f_readlist = some ⟨oc_readlist, od_readlist, .func (PySem.W.fnOf "read_list" "read_list" (defArgs s_readlist) (defBody s_readlist) (defScope s_readlist) .none kV_readlist dc_readlist pm_readlist an_readlist cd_readlist ct_readlist), sl_readlist⟩)
    (c_readlist : PySem.W.codeIn K cd_readlist "read_list" = true) (k_readlist : PySem.W.keepIn K (.ref f_readlist) = true)
    {f_isnumber : Addr} {od_isnumber an_isnumber : Option Addr} {sl_isnumber : Array (Option Value)} {oc_isnumber kV_isnumber dc_isnumber pm_isnumber cd_isnumber ct_isnumber : Value}
    (a_isnumber : PySem.W.nsIn K mainGlobals "is_number" = some (some (.ref f_isnumber)))
    (l_isnumber : K.lookup f_isnumber = some ⟨oc_isnumber, od_isnumber, .func (PySem.W.fnOf "is_number" "is_number" (defArgs s_isnumber) (defBody s_isnumber) (defScope s_isnumber) .none kV_isnumber dc_isnumber pm_isnumber an_isnumber cd_isnumber ct_isnumber), sl_isnumber⟩)
    (c_isnumber : PySem.W.codeIn K cd_isnumber "is_number" = true) (k_isnumber : PySem.W.keepIn K (.ref f_isnumber) = true)
    {f_lawrng : Addr} {od_lawrng an_lawrng : Option Addr} {sl_lawrng : Array (Option Value)} {oc_lawrng kV_lawrng dc_lawrng pm_lawrng cd_lawrng ct_lawrng : Value}
    (a_lawrng : PySem.W.nsIn K mainGlobals "_law_rng" = some (some (.ref f_lawrng)))
    (l_lawrng : K.lookup f_lawrng = some ⟨oc_lawrng, od_lawrng, .func (PySem.W.fnOf "_law_rng" "_law_rng" (defArgs s_lawrng) (defBody s_lawrng) (defScope s_lawrng) .none kV_lawrng dc_lawrng pm_lawrng an_lawrng cd_lawrng ct_lawrng), sl_lawrng⟩)
    (c_lawrng : PySem.W.codeIn K cd_lawrng "_law_rng" = true) (k_lawrng : PySem.W.keepIn K (.ref f_lawrng) = true)
    {f_lawdraw : Addr} {od_lawdraw an_lawdraw : Option Addr} {sl_lawdraw : Array (Option Value)} {oc_lawdraw kV_lawdraw dc_lawdraw pm_lawdraw cd_lawdraw ct_lawdraw : Value}
    (a_lawdraw : PySem.W.nsIn K mainGlobals "_law_draw" = some (some (.ref f_lawdraw)))
    (l_lawdraw : K.lookup f_lawdraw = some ⟨oc_lawdraw, od_lawdraw, .func (PySem.W.fnOf "_law_draw" "_law_draw" (defArgs s_lawdraw) (defBody s_lawdraw) (defScope s_lawdraw) .none kV_lawdraw dc_lawdraw pm_lawdraw an_lawdraw cd_lawdraw ct_lawdraw), sl_lawdraw⟩)
    (c_lawdraw : PySem.W.codeIn K cd_lawdraw "_law_draw" = true) (k_lawdraw : PySem.W.keepIn K (.ref f_lawdraw) = true)
    {f_lawnumber : Addr} {od_lawnumber an_lawnumber : Option Addr} {sl_lawnumber : Array (Option Value)} {oc_lawnumber kV_lawnumber dc_lawnumber pm_lawnumber cd_lawnumber ct_lawnumber : Value}
    (a_lawnumber : PySem.W.nsIn K mainGlobals "_law_number" = some (some (.ref f_lawnumber)))
    (l_lawnumber : K.lookup f_lawnumber = some ⟨oc_lawnumber, od_lawnumber, .func (PySem.W.fnOf "_law_number" "_law_number" (defArgs s_lawnumber) (defBody s_lawnumber) (defScope s_lawnumber) .none kV_lawnumber dc_lawnumber pm_lawnumber an_lawnumber cd_lawnumber ct_lawnumber), sl_lawnumber⟩)
    (c_lawnumber : PySem.W.codeIn K cd_lawnumber "_law_number" = true) (k_lawnumber : PySem.W.keepIn K (.ref f_lawnumber) = true)
    {f_lawdue : Addr} {od_lawdue an_lawdue : Option Addr} {sl_lawdue : Array (Option Value)} {oc_lawdue kV_lawdue dc_lawdue pm_lawdue cd_lawdue ct_lawdue : Value}
    (a_lawdue : PySem.W.nsIn K mainGlobals "_law_due" = some (some (.ref f_lawdue)))
    (l_lawdue : K.lookup f_lawdue = some ⟨oc_lawdue, od_lawdue, .func (PySem.W.fnOf "_law_due" "_law_due" (defArgs s_lawdue) (defBody s_lawdue) (defScope s_lawdue) .none kV_lawdue dc_lawdue pm_lawdue an_lawdue cd_lawdue ct_lawdue), sl_lawdue⟩)
    (c_lawdue : PySem.W.codeIn K cd_lawdue "_law_due" = true) (k_lawdue : PySem.W.keepIn K (.ref f_lawdue) = true)
    {f_lawtold : Addr} {od_lawtold an_lawtold : Option Addr} {sl_lawtold : Array (Option Value)} {oc_lawtold kV_lawtold dc_lawtold pm_lawtold cd_lawtold ct_lawtold : Value}
    (a_lawtold : PySem.W.nsIn K mainGlobals "_law_told" = some (some (.ref f_lawtold)))
    (l_lawtold : K.lookup f_lawtold = some ⟨oc_lawtold, od_lawtold, .func (PySem.W.fnOf "_law_told" "_law_told" (defArgs s_lawtold) (defBody s_lawtold) (defScope s_lawtold) .none kV_lawtold dc_lawtold pm_lawtold an_lawtold cd_lawtold ct_lawtold), sl_lawtold⟩)
    (c_lawtold : PySem.W.codeIn K cd_lawtold "_law_told" = true) (k_lawtold : PySem.W.keepIn K (.ref f_lawtold) = true)
    {f_lawparts : Addr} {od_lawparts an_lawparts : Option Addr} {sl_lawparts : Array (Option Value)} {oc_lawparts kV_lawparts dc_lawparts pm_lawparts cd_lawparts ct_lawparts : Value}
    (a_lawparts : PySem.W.nsIn K mainGlobals "_law_parts" = some (some (.ref f_lawparts)))
    (l_lawparts : K.lookup f_lawparts = some ⟨oc_lawparts, od_lawparts, .func (PySem.W.fnOf "_law_parts" "_law_parts" (defArgs s_lawparts) (defBody s_lawparts) (defScope s_lawparts) .none kV_lawparts dc_lawparts pm_lawparts an_lawparts cd_lawparts ct_lawparts), sl_lawparts⟩)
    (c_lawparts : PySem.W.codeIn K cd_lawparts "_law_parts" = true) (k_lawparts : PySem.W.keepIn K (.ref f_lawparts) = true)
    {f_lawbent : Addr} {od_lawbent an_lawbent : Option Addr} {sl_lawbent : Array (Option Value)} {oc_lawbent kV_lawbent dc_lawbent pm_lawbent cd_lawbent ct_lawbent : Value}
    (a_lawbent : PySem.W.nsIn K mainGlobals "_law_bent" = some (some (.ref f_lawbent)))
    (l_lawbent : K.lookup f_lawbent = some ⟨oc_lawbent, od_lawbent, .func (PySem.W.fnOf "_law_bent" "_law_bent" (defArgs s_lawbent) (defBody s_lawbent) (defScope s_lawbent) .none kV_lawbent dc_lawbent pm_lawbent an_lawbent cd_lawbent ct_lawbent), sl_lawbent⟩)
    (c_lawbent : PySem.W.codeIn K cd_lawbent "_law_bent" = true) (k_lawbent : PySem.W.keepIn K (.ref f_lawbent) = true)
    {f_lawsmall : Addr} {od_lawsmall an_lawsmall : Option Addr} {sl_lawsmall : Array (Option Value)} {oc_lawsmall kV_lawsmall dc_lawsmall pm_lawsmall cd_lawsmall ct_lawsmall : Value}
    (a_lawsmall : PySem.W.nsIn K mainGlobals "_law_small" = some (some (.ref f_lawsmall)))
    (l_lawsmall : K.lookup f_lawsmall = some ⟨oc_lawsmall, od_lawsmall, .func (PySem.W.fnOf "_law_small" "_law_small" (defArgs s_lawsmall) (defBody s_lawsmall) (defScope s_lawsmall) .none kV_lawsmall dc_lawsmall pm_lawsmall an_lawsmall cd_lawsmall ct_lawsmall), sl_lawsmall⟩)
    (c_lawsmall : PySem.W.codeIn K cd_lawsmall "_law_small" = true) (k_lawsmall : PySem.W.keepIn K (.ref f_lawsmall) = true)
    {f_lawright : Addr} {od_lawright an_lawright : Option Addr} {sl_lawright : Array (Option Value)} {oc_lawright kV_lawright dc_lawright pm_lawright cd_lawright ct_lawright : Value}
    (a_lawright : PySem.W.nsIn K mainGlobals "_law_right" = some (some (.ref f_lawright)))
    (l_lawright : K.lookup f_lawright = some ⟨oc_lawright, od_lawright, .func (PySem.W.fnOf "_law_right" "_law_right" (defArgs s_lawright) (defBody s_lawright) (defScope s_lawright) .none kV_lawright dc_lawright pm_lawright an_lawright cd_lawright ct_lawright), sl_lawright⟩)
    (c_lawright : PySem.W.codeIn K cd_lawright "_law_right" = true) (k_lawright : PySem.W.keepIn K (.ref f_lawright) = true)
    {f_law : Addr} {od_law an_law : Option Addr} {sl_law : Array (Option Value)} {oc_law kV_law dc_law pm_law cd_law ct_law : Value}
    (a_law : PySem.W.nsIn K mainGlobals "law" = some (some (.ref f_law)))
    (l_law : K.lookup f_law = some ⟨oc_law, od_law, .func (PySem.W.fnOf "law" "law" (defArgs s_law) (defBody s_law) (defScope s_law) .none kV_law dc_law pm_law an_law cd_law ct_law), sl_law⟩)
    (c_law : PySem.W.codeIn K cd_law "law" = true) (k_law : PySem.W.keepIn K (.ref f_law) = true)
    (z_len : PySem.W.nsIn K mainGlobals "len" = some none)
    (z_min : PySem.W.nsIn K mainGlobals "min" = some none)
    (z_max : PySem.W.nsIn K mainGlobals "max" = some none)
    (z_abs : PySem.W.nsIn K mainGlobals "abs" = some none)
    (z_range : PySem.W.nsIn K mainGlobals "range" = some none)
    (z_isinstance : PySem.W.nsIn K mainGlobals "isinstance" = some none)
    (z_repr : PySem.W.nsIn K mainGlobals "repr" = some none)
    (z_enumerate : PySem.W.nsIn K mainGlobals "enumerate" = some none)
    (z_reversed : PySem.W.nsIn K mainGlobals "reversed" = some none)
    (z_sorted : PySem.W.nsIn K mainGlobals "sorted" = some none)
    (z_bool : PySem.W.nsIn K mainGlobals "bool" = some none)
    (z_int : PySem.W.nsIn K mainGlobals "int" = some none)
    (z_str : PySem.W.nsIn K mainGlobals "str" = some none)
    (z_list : PySem.W.nsIn K mainGlobals "list" = some none)
    (z_tuple : PySem.W.nsIn K mainGlobals "tuple" = some none)
    (z_set : PySem.W.nsIn K mainGlobals "set" = some none)
    (z_sum : PySem.W.nsIn K mainGlobals "sum" = some none)
    (z_zip : PySem.W.nsIn K mainGlobals "zip" = some none)
    (z_all : PySem.W.nsIn K mainGlobals "all" = some none)
    (z_any : PySem.W.nsIn K mainGlobals "any" = some none)
    (z_ValueError : PySem.W.nsIn K mainGlobals "ValueError" = some none)
    (z_divmod : PySem.W.nsIn K mainGlobals "divmod" = some none)
    {CB : Addr} (aCB : PySem.W.nsIn K mainGlobals "SqueezeError" = some (some (.ref CB))) (iCB : PySem.W.isClsIn K CB = true) (tCB : PySem.W.typeIn K (.ref CB) = some (.type "type"))
    (third : PySem.W.nsIn K cStatics "thirdparty.any" = some none) (zSup : PySem.W.nsIn K mainGlobals "super" = some none) (hTop : (l.prog.main.scope.names.lookup ("super" : Str)).isSome = false)
    (spC : PySem.W.specialIn K (.builtin "object.__class__") "__get__" = some (some (.builtin "getset_descriptor.__get__"))) (tkC : PySem.W.takesIn K (.builtin "object.__class__") = some true)
    {C0 I0 N0 cda0 cc0 : Addr} {nm0 qn0 msg0 file0 : Str} {bs0 sub0 : List Value} {sn0 : List Str} {ab0 : Bool} {col0 : Option Bool} {dd0 od0 an0 cdd0 cld0 : Option Addr} {ka0 kb0 kc0 kd0 ke0 : Option Value}
    {oc0 doc0 pm0 ct0 ccl0 cl0 : Value} {osl0 ccs0 csl0 : Array (Option Value)} {vs0 : Array Value} {tf0 : Tok} {j0 : Nat} {p0_1 p0_2 q0_0 q0_1 q0_2 q0_3 q0_4 q0_5 r0_1 r0_2 r0_3 r0_4 : Pos}
    (aC0 : PySem.W.nsIn K mainGlobals "InvalidList" = some (some (.ref C0)))
    (xL0 : K.lookup C0 = some (excClassObj nm0 qn0 C0 N0 bs0 [.ref CB, .type "ValueError", .type "Exception", .type "BaseException", .type "object"] true sn0 sub0 ab0 col0 dd0 ka0 kb0 kc0 kd0 ke0 "ValueError.__new__"))
    (sa0 : PySem.W.findIn K (.ref C0) "__setattr__" = some (some (.builtin "object.__setattr__")))
    (nv0 : PySem.W.findIn K (.ref C0) "value" = some none)
    (iC0 : PySem.W.findIn K (.ref C0) "__init__" = some (some (.ref I0)))
    (tI0 : PySem.W.typeIn K (.ref I0) = some (.type "function"))
    (kC0 : PySem.W.keepIn K (.ref C0) = true)
    (eC0 : PySem.W.subIn K (.ref C0) (.type "BaseException") = some true)
    (vC0 : PySem.W.subIn K (.ref C0) (.type "ValueError") = some true)
    (tC0 : PySem.W.typeIn K (.ref C0) = some (.type "type"))
    (mC0 : PySem.W.mroIn K C0 (.ref C0) = some true)
    (su0 : PySem.W.ks_superIn K C0 C0 "__init__" = some (some (.builtin "ValueError.__init__")))
    (fI0 : K.lookup I0 = some ⟨oc0, od0, .func (PySem.W.ksFn "__init__" "InvalidList.__init__" (SqX.xA p0_1 p0_2) (SqX.xB msg0 j0 q0_0 q0_1 q0_2 q0_3 q0_4 q0_5 r0_1 r0_2 r0_3 r0_4) SqX.xS .none .none doc0 pm0 an0 (.ref cda0) ct0 cc0), osl0⟩)
    (cI0 : PySem.W.codeIn K (.ref cda0) "InvalidList.__init__" = true)
    (lc0 : K.lookup cda0 = some ⟨ccl0, cdd0, .fields vs0, ccs0⟩)
    (vf0 : vs0[2]? = some (.str file0 tf0))
    (mf0 : ((l.prog.main.file : Str) == file0) = true)
    (lk0 : K.lookup cc0 = some ⟨cl0, cld0, .cell (some (.ref C0)), csl0⟩)
    (ln0 : (q0_2.endLine == q0_4.line) = true)
    (ga0 : PySem.W.findIn K (.ref C0) "__getattribute__" = some (some (.builtin "BaseException.__getattribute__")))
    (gg0 : PySem.W.findIn K (.ref C0) "__getattr__" = some none)
    (hd0 : PySem.W.hasDictIn K C0 = true)
    (ha0 : PySem.W.findIn K (.ref C0) "__class__" = some (some (.builtin "object.__class__")))
    (mo0 : PySem.W.mroIn K C0 (.type "object") = some true)
    (ic0 : PySem.W.isClsIn K C0 = true)
    (sB0 : PySem.W.subIn K (.ref C0) (.ref CB) = some true)
    {C1 I1 N1 cda1 cc1 : Addr} {nm1 qn1 msg1 file1 : Str} {bs1 sub1 : List Value} {sn1 : List Str} {ab1 : Bool} {col1 : Option Bool} {dd1 od1 an1 cdd1 cld1 : Option Addr} {ka1 kb1 kc1 kd1 ke1 : Option Value}
    {oc1 doc1 pm1 ct1 ccl1 cl1 : Value} {osl1 ccs1 csl1 : Array (Option Value)} {vs1 : Array Value} {tf1 : Tok} {j1 : Nat} {p1_1 p1_2 q1_0 q1_1 q1_2 q1_3 q1_4 q1_5 r1_1 r1_2 r1_3 r1_4 : Pos}
    (aC1 : PySem.W.nsIn K mainGlobals "InvalidNumber" = some (some (.ref C1)))
    (xL1 : K.lookup C1 = some (excClassObj nm1 qn1 C1 N1 bs1 [.ref CB, .type "ValueError", .type "Exception", .type "BaseException", .type "object"] true sn1 sub1 ab1 col1 dd1 ka1 kb1 kc1 kd1 ke1 "ValueError.__new__"))
    (sa1 : PySem.W.findIn K (.ref C1) "__setattr__" = some (some (.builtin "object.__setattr__")))
    (nv1 : PySem.W.findIn K (.ref C1) "value" = some none)
    (iC1 : PySem.W.findIn K (.ref C1) "__init__" = some (some (.ref I1)))
    (tI1 : PySem.W.typeIn K (.ref I1) = some (.type "function"))
    (kC1 : PySem.W.keepIn K (.ref C1) = true)
    (eC1 : PySem.W.subIn K (.ref C1) (.type "BaseException") = some true)
    (vC1 : PySem.W.subIn K (.ref C1) (.type "ValueError") = some true)
    (tC1 : PySem.W.typeIn K (.ref C1) = some (.type "type"))
    (mC1 : PySem.W.mroIn K C1 (.ref C1) = some true)
    (su1 : PySem.W.ks_superIn K C1 C1 "__init__" = some (some (.builtin "ValueError.__init__")))
    (fI1 : K.lookup I1 = some ⟨oc1, od1, .func (PySem.W.ksFn "__init__" "InvalidNumber.__init__" (SqX.xA p1_1 p1_2) (SqX.xB msg1 j1 q1_0 q1_1 q1_2 q1_3 q1_4 q1_5 r1_1 r1_2 r1_3 r1_4) SqX.xS .none .none doc1 pm1 an1 (.ref cda1) ct1 cc1), osl1⟩)
    (cI1 : PySem.W.codeIn K (.ref cda1) "InvalidNumber.__init__" = true)
    (lc1 : K.lookup cda1 = some ⟨ccl1, cdd1, .fields vs1, ccs1⟩)
    (vf1 : vs1[2]? = some (.str file1 tf1))
    (mf1 : ((l.prog.main.file : Str) == file1) = true)
    (lk1 : K.lookup cc1 = some ⟨cl1, cld1, .cell (some (.ref C1)), csl1⟩)
    (ln1 : (q1_2.endLine == q1_4.line) = true)
    (ga1 : PySem.W.findIn K (.ref C1) "__getattribute__" = some (some (.builtin "BaseException.__getattribute__")))
    (gg1 : PySem.W.findIn K (.ref C1) "__getattr__" = some none)
    (hd1 : PySem.W.hasDictIn K C1 = true)
    (ha1 : PySem.W.findIn K (.ref C1) "__class__" = some (some (.builtin "object.__class__")))
    (mo1 : PySem.W.mroIn K C1 (.type "object") = some true)
    (ic1 : PySem.W.isClsIn K C1 = true)
    (sB1 : PySem.W.subIn K (.ref C1) (.ref CB) = some true)
    {C2 I2 N2 cda2 cc2 : Addr} {nm2 qn2 msg2 file2 : Str} {bs2 sub2 : List Value} {sn2 : List Str} {ab2 : Bool} {col2 : Option Bool} {dd2 od2 an2 cdd2 cld2 : Option Addr} {ka2 kb2 kc2 kd2 ke2 : Option Value}
    {oc2 doc2 pm2 ct2 ccl2 cl2 : Value} {osl2 ccs2 csl2 : Array (Option Value)} {vs2 : Array Value} {tf2 : Tok} {j2 : Nat} {p2_1 p2_2 q2_0 q2_1 q2_2 q2_3 q2_4 q2_5 r2_1 r2_2 r2_3 r2_4 : Pos}
    (aC2 : PySem.W.nsIn K mainGlobals "InvalidCharacter" = some (some (.ref C2)))
    (xL2 : K.lookup C2 = some (excClassObj nm2 qn2 C2 N2 bs2 [.ref CB, .type "ValueError", .type "Exception", .type "BaseException", .type "object"] true sn2 sub2 ab2 col2 dd2 ka2 kb2 kc2 kd2 ke2 "ValueError.__new__"))
    (sa2 : PySem.W.findIn K (.ref C2) "__setattr__" = some (some (.builtin "object.__setattr__")))
    (nv2 : PySem.W.findIn K (.ref C2) "value" = some none)
    (iC2 : PySem.W.findIn K (.ref C2) "__init__" = some (some (.ref I2)))
    (tI2 : PySem.W.typeIn K (.ref I2) = some (.type "function"))
    (kC2 : PySem.W.keepIn K (.ref C2) = true)
    (eC2 : PySem.W.subIn K (.ref C2) (.type "BaseException") = some true)
    (vC2 : PySem.W.subIn K (.ref C2) (.type "ValueError") = some true)
    (tC2 : PySem.W.typeIn K (.ref C2) = some (.type "type"))
    (mC2 : PySem.W.mroIn K C2 (.ref C2) = some true)
    (su2 : PySem.W.ks_superIn K C2 C2 "__init__" = some (some (.builtin "ValueError.__init__")))
    (fI2 : K.lookup I2 = some ⟨oc2, od2, .func (PySem.W.ksFn "__init__" "InvalidCharacter.__init__" (SqX.xA p2_1 p2_2) (SqX.xB msg2 j2 q2_0 q2_1 q2_2 q2_3 q2_4 q2_5 r2_1 r2_2 r2_3 r2_4) SqX.xS .none .none doc2 pm2 an2 (.ref cda2) ct2 cc2), osl2⟩)
    (cI2 : PySem.W.codeIn K (.ref cda2) "InvalidCharacter.__init__" = true)
    (lc2 : K.lookup cda2 = some ⟨ccl2, cdd2, .fields vs2, ccs2⟩)
    (vf2 : vs2[2]? = some (.str file2 tf2))
    (mf2 : ((l.prog.main.file : Str) == file2) = true)
    (lk2 : K.lookup cc2 = some ⟨cl2, cld2, .cell (some (.ref C2)), csl2⟩)
    (ln2 : (q2_2.endLine == q2_4.line) = true)
    (ga2 : PySem.W.findIn K (.ref C2) "__getattribute__" = some (some (.builtin "BaseException.__getattribute__")))
    (gg2 : PySem.W.findIn K (.ref C2) "__getattr__" = some none)
    (hd2 : PySem.W.hasDictIn K C2 = true)
    (ha2 : PySem.W.findIn K (.ref C2) "__class__" = some (some (.builtin "object.__class__")))
    (mo2 : PySem.W.mroIn K C2 (.type "object") = some true)
    (ic2 : PySem.W.isClsIn K C2 = true)
    (sB2 : PySem.W.subIn K (.ref C2) (.ref CB) = some true)
    {C3 I3 N3 cda3 cc3 : Addr} {nm3 qn3 msg3 file3 : Str} {bs3 sub3 : List Value} {sn3 : List Str} {ab3 : Bool} {col3 : Option Bool} {dd3 od3 an3 cdd3 cld3 : Option Addr} {ka3 kb3 kc3 kd3 ke3 : Option Value}
    {oc3 doc3 pm3 ct3 ccl3 cl3 : Value} {osl3 ccs3 csl3 : Array (Option Value)} {vs3 : Array Value} {tf3 : Tok} {j3 : Nat} {p3_1 p3_2 q3_0 q3_1 q3_2 q3_3 q3_4 q3_5 r3_1 r3_2 r3_3 r3_4 : Pos}
    (aC3 : PySem.W.nsIn K mainGlobals "NothingToUndo" = some (some (.ref C3)))
    (xL3 : K.lookup C3 = some (excClassObj nm3 qn3 C3 N3 bs3 [.ref CB, .type "ValueError", .type "Exception", .type "BaseException", .type "object"] true sn3 sub3 ab3 col3 dd3 ka3 kb3 kc3 kd3 ke3 "ValueError.__new__"))
    (sa3 : PySem.W.findIn K (.ref C3) "__setattr__" = some (some (.builtin "object.__setattr__")))
    (nv3 : PySem.W.findIn K (.ref C3) "value" = some none)
    (iC3 : PySem.W.findIn K (.ref C3) "__init__" = some (some (.ref I3)))
    (tI3 : PySem.W.typeIn K (.ref I3) = some (.type "function"))
    (kC3 : PySem.W.keepIn K (.ref C3) = true)
    (eC3 : PySem.W.subIn K (.ref C3) (.type "BaseException") = some true)
    (vC3 : PySem.W.subIn K (.ref C3) (.type "ValueError") = some true)
    (tC3 : PySem.W.typeIn K (.ref C3) = some (.type "type"))
    (mC3 : PySem.W.mroIn K C3 (.ref C3) = some true)
    (su3 : PySem.W.ks_superIn K C3 C3 "__init__" = some (some (.builtin "ValueError.__init__")))
    (fI3 : K.lookup I3 = some ⟨oc3, od3, .func (PySem.W.ksFn "__init__" "NothingToUndo.__init__" (SqX.xA p3_1 p3_2) (SqX.xB msg3 j3 q3_0 q3_1 q3_2 q3_3 q3_4 q3_5 r3_1 r3_2 r3_3 r3_4) SqX.xS .none .none doc3 pm3 an3 (.ref cda3) ct3 cc3), osl3⟩)
    (cI3 : PySem.W.codeIn K (.ref cda3) "NothingToUndo.__init__" = true)
    (lc3 : K.lookup cda3 = some ⟨ccl3, cdd3, .fields vs3, ccs3⟩)
    (vf3 : vs3[2]? = some (.str file3 tf3))
    (mf3 : ((l.prog.main.file : Str) == file3) = true)
    (lk3 : K.lookup cc3 = some ⟨cl3, cld3, .cell (some (.ref C3)), csl3⟩)
    (ln3 : (q3_2.endLine == q3_4.line) = true)
    (ga3 : PySem.W.findIn K (.ref C3) "__getattribute__" = some (some (.builtin "BaseException.__getattribute__")))
    (gg3 : PySem.W.findIn K (.ref C3) "__getattr__" = some none)
    (hd3 : PySem.W.hasDictIn K C3 = true)
    (ha3 : PySem.W.findIn K (.ref C3) "__class__" = some (some (.builtin "object.__class__")))
    (mo3 : PySem.W.mroIn K C3 (.type "object") = some true)
    (ic3 : PySem.W.isClsIn K C3 = true)
    (sB3 : PySem.W.subIn K (.ref C3) (.ref CB) = some true)
    {C4 I4 N4 cda4 cc4 : Addr} {nm4 qn4 msg4 file4 : Str} {bs4 sub4 : List Value} {sn4 : List Str} {ab4 : Bool} {col4 : Option Bool} {dd4 od4 an4 cdd4 cld4 : Option Addr} {ka4 kb4 kc4 kd4 ke4 : Option Value}
    {oc4 doc4 pm4 ct4 ccl4 cl4 : Value} {osl4 ccs4 csl4 : Array (Option Value)} {vs4 : Array Value} {tf4 : Tok} {j4 : Nat} {p4_1 p4_2 q4_0 q4_1 q4_2 q4_3 q4_4 q4_5 r4_1 r4_2 r4_3 r4_4 : Pos}
    (aC4 : PySem.W.nsIn K mainGlobals "Unreadable" = some (some (.ref C4)))
    (xL4 : K.lookup C4 = some (excClassObj nm4 qn4 C4 N4 bs4 [.ref CB, .type "ValueError", .type "Exception", .type "BaseException", .type "object"] true sn4 sub4 ab4 col4 dd4 ka4 kb4 kc4 kd4 ke4 "ValueError.__new__"))
    (sa4 : PySem.W.findIn K (.ref C4) "__setattr__" = some (some (.builtin "object.__setattr__")))
    (nv4 : PySem.W.findIn K (.ref C4) "value" = some none)
    (iC4 : PySem.W.findIn K (.ref C4) "__init__" = some (some (.ref I4)))
    (tI4 : PySem.W.typeIn K (.ref I4) = some (.type "function"))
    (kC4 : PySem.W.keepIn K (.ref C4) = true)
    (eC4 : PySem.W.subIn K (.ref C4) (.type "BaseException") = some true)
    (vC4 : PySem.W.subIn K (.ref C4) (.type "ValueError") = some true)
    (tC4 : PySem.W.typeIn K (.ref C4) = some (.type "type"))
    (mC4 : PySem.W.mroIn K C4 (.ref C4) = some true)
    (su4 : PySem.W.ks_superIn K C4 C4 "__init__" = some (some (.builtin "ValueError.__init__")))
    (fI4 : K.lookup I4 = some ⟨oc4, od4, .func (PySem.W.ksFn "__init__" "Unreadable.__init__" (SqX.xA p4_1 p4_2) (SqX.xB msg4 j4 q4_0 q4_1 q4_2 q4_3 q4_4 q4_5 r4_1 r4_2 r4_3 r4_4) SqX.xS .none .none doc4 pm4 an4 (.ref cda4) ct4 cc4), osl4⟩)
    (cI4 : PySem.W.codeIn K (.ref cda4) "Unreadable.__init__" = true)
    (lc4 : K.lookup cda4 = some ⟨ccl4, cdd4, .fields vs4, ccs4⟩)
    (vf4 : vs4[2]? = some (.str file4 tf4))
    (mf4 : ((l.prog.main.file : Str) == file4) = true)
    (lk4 : K.lookup cc4 = some ⟨cl4, cld4, .cell (some (.ref C4)), csl4⟩)
    (ln4 : (q4_2.endLine == q4_4.line) = true)
    (ga4 : PySem.W.findIn K (.ref C4) "__getattribute__" = some (some (.builtin "BaseException.__getattribute__")))
    (gg4 : PySem.W.findIn K (.ref C4) "__getattr__" = some none)
    (hd4 : PySem.W.hasDictIn K C4 = true)
    (ha4 : PySem.W.findIn K (.ref C4) "__class__" = some (some (.builtin "object.__class__")))
    (mo4 : PySem.W.mroIn K C4 (.type "object") = some true)
    (ic4 : PySem.W.isClsIn K C4 = true)
    (sB4 : PySem.W.subIn K (.ref C4) (.ref CB) = some true)
    (s0_0 : PySem.W.subIn K (.ref C0) (.ref C0) = some true)
    (s0_1 : PySem.W.subIn K (.ref C0) (.ref C1) = some false)
    (s0_2 : PySem.W.subIn K (.ref C0) (.ref C2) = some false)
    (s0_3 : PySem.W.subIn K (.ref C0) (.ref C3) = some false)
    (s0_4 : PySem.W.subIn K (.ref C0) (.ref C4) = some false)
    (s1_0 : PySem.W.subIn K (.ref C1) (.ref C0) = some false)
    (s1_1 : PySem.W.subIn K (.ref C1) (.ref C1) = some true)
    (s1_2 : PySem.W.subIn K (.ref C1) (.ref C2) = some false)
    (s1_3 : PySem.W.subIn K (.ref C1) (.ref C3) = some false)
    (s1_4 : PySem.W.subIn K (.ref C1) (.ref C4) = some false)
    (s2_0 : PySem.W.subIn K (.ref C2) (.ref C0) = some false)
    (s2_1 : PySem.W.subIn K (.ref C2) (.ref C1) = some false)
    (s2_2 : PySem.W.subIn K (.ref C2) (.ref C2) = some true)
    (s2_3 : PySem.W.subIn K (.ref C2) (.ref C3) = some false)
    (s2_4 : PySem.W.subIn K (.ref C2) (.ref C4) = some false)
    (s3_0 : PySem.W.subIn K (.ref C3) (.ref C0) = some false)
    (s3_1 : PySem.W.subIn K (.ref C3) (.ref C1) = some false)
    (s3_2 : PySem.W.subIn K (.ref C3) (.ref C2) = some false)
    (s3_3 : PySem.W.subIn K (.ref C3) (.ref C3) = some true)
    (s3_4 : PySem.W.subIn K (.ref C3) (.ref C4) = some false)
    (s4_0 : PySem.W.subIn K (.ref C4) (.ref C0) = some false)
    (s4_1 : PySem.W.subIn K (.ref C4) (.ref C1) = some false)
    (s4_2 : PySem.W.subIn K (.ref C4) (.ref C2) = some false)
    (s4_3 : PySem.W.subIn K (.ref C4) (.ref C3) = some false)
    (s4_4 : PySem.W.subIn K (.ref C4) (.ref C4) = some true)
    (eCB : PySem.W.subIn K (.ref CB) (.type "BaseException") = some true) (hdB : PySem.W.hasDictIn K CB = true)
    (st0 : PySem.W.subIn K (.ref C0) (.type "StopIteration") = some false)
    (st1 : PySem.W.subIn K (.ref C1) (.type "StopIteration") = some false)
    (st2 : PySem.W.subIn K (.ref C2) (.type "StopIteration") = some false)
    (st3 : PySem.W.subIn K (.ref C3) (.type "StopIteration") = some false)
    (st4 : PySem.W.subIn K (.ref C4) (.type "StopIteration") = some false)
    {tkaMD : Tok} (aMD : PySem.W.nsIn K mainGlobals "MOST_DIGITS" = some (some (.int 200 tkaMD)))
    : ∃ fd : FuncData, (∀ (s : Shared) (v : Value), BindsTo s fd ⟨[v], []⟩ [("script", v)]) ∧ ∀ base : Heap, K.In base → base.Ns mainGlobals mg → Top l.prog w K mg base 6 fa fd "script" (spLaw K) := by
  have e := hfa.symm.trans (PySem.W.mg_of X G a_law)
  cases e
  have B : Bi mg := ⟨PySem.W.mg_none_of X G z_len, PySem.W.mg_none_of X G z_min, PySem.W.mg_none_of X G z_max, PySem.W.mg_none_of X G z_abs, PySem.W.mg_none_of X G z_range, PySem.W.mg_none_of X G z_isinstance, PySem.W.mg_none_of X G z_repr, PySem.W.mg_none_of X G z_enumerate, PySem.W.mg_none_of X G z_reversed, PySem.W.mg_none_of X G z_sorted, PySem.W.mg_none_of X G z_bool, PySem.W.mg_none_of X G z_int, PySem.W.mg_none_of X G z_str, PySem.W.mg_none_of X G z_list, PySem.W.mg_none_of X G z_tuple, PySem.W.mg_none_of X G z_set, PySem.W.mg_none_of X G z_sum, PySem.W.mg_none_of X G z_zip, PySem.W.mg_none_of X G z_all, PySem.W.mg_none_of X G z_any, PySem.W.mg_none_of X G z_ValueError, PySem.W.mg_none_of X G z_divmod⟩
  have F_readlist := fun_mk (st := s_readlist) l_readlist c_readlist k_readlist
  have b_readlist := F_readlist.binds (ps := ["text"]) fun _ _ _ _ _ _ us hl => match us, hl with | [_], _ => rfl
  have g_readlist := PySem.W.mg_of X G a_readlist
  have F_isnumber := fun_mk (st := s_isnumber) l_isnumber c_isnumber k_isnumber
  have b_isnumber := F_isnumber.binds (ps := ["digits"]) fun _ _ _ _ _ _ us hl => match us, hl with | [_], _ => rfl
  have g_isnumber := PySem.W.mg_of X G a_isnumber
  have F_lawrng := fun_mk (st := s_lawrng) l_lawrng c_lawrng k_lawrng
  have b_lawrng := F_lawrng.binds (ps := ["script"]) fun _ _ _ _ _ _ us hl => match us, hl with | [_], _ => rfl
  have g_lawrng := PySem.W.mg_of X G a_lawrng
  have F_lawdraw := fun_mk (st := s_lawdraw) l_lawdraw c_lawdraw k_lawdraw
  have b_lawdraw := F_lawdraw.binds (ps := ["rng", "limit"]) fun _ _ _ _ _ _ us hl => match us, hl with | [_, _], _ => rfl
  have g_lawdraw := PySem.W.mg_of X G a_lawdraw
  have F_lawnumber := fun_mk (st := s_lawnumber) l_lawnumber c_lawnumber k_lawnumber
  have b_lawnumber := F_lawnumber.binds (ps := ["word", "least"]) fun _ _ _ _ _ _ us hl => match us, hl with | [_, _], _ => rfl
  have g_lawnumber := PySem.W.mg_of X G a_lawnumber
  have F_lawdue := fun_mk (st := s_lawdue) l_lawdue c_lawdue k_lawdue
  have b_lawdue := F_lawdue.binds (ps := ["written"]) fun _ _ _ _ _ _ us hl => match us, hl with | [_], _ => rfl
  have g_lawdue := PySem.W.mg_of X G a_lawdue
  have F_lawtold := fun_mk (st := s_lawtold) l_lawtold c_lawtold k_lawtold
  have b_lawtold := F_lawtold.binds (ps := ["written", "by_name"]) fun _ _ _ _ _ _ us hl => match us, hl with | [_, _], _ => rfl
  have g_lawtold := PySem.W.mg_of X G a_lawtold
  have F_lawparts := fun_mk (st := s_lawparts) l_lawparts c_lawparts k_lawparts
  have b_lawparts := F_lawparts.binds (ps := ["rng"]) fun _ _ _ _ _ _ us hl => match us, hl with | [_], _ => rfl
  have g_lawparts := PySem.W.mg_of X G a_lawparts
  have F_lawbent := fun_mk (st := s_lawbent) l_lawbent c_lawbent k_lawbent
  have b_lawbent := F_lawbent.binds (ps := ["rng", "written"]) fun _ _ _ _ _ _ us hl => match us, hl with | [_, _], _ => rfl
  have g_lawbent := PySem.W.mg_of X G a_lawbent
  have F_lawsmall := fun_mk (st := s_lawsmall) l_lawsmall c_lawsmall k_lawsmall
  have b_lawsmall := F_lawsmall.binds (ps := ["written"]) fun _ _ _ _ _ _ us hl => match us, hl with | [_], _ => rfl
  have g_lawsmall := PySem.W.mg_of X G a_lawsmall
  have F_lawright := fun_mk (st := s_lawright) l_lawright c_lawright k_lawright
  have b_lawright := F_lawright.binds (ps := ["one"]) fun _ _ _ _ _ _ us hl => match us, hl with | [_], _ => rfl
  have g_lawright := PySem.W.mg_of X G a_lawright
  have F_law := fun_mk (st := s_law) l_law c_law k_law
  exact ⟨_, fun s v => .of_eq rfl, fun base _ _ => by
    have bmV : PySem.HandSPX.refsVE [.ref CB, .type "ValueError", .type "Exception", .type "BaseException", .type "object"] = true := (show PySem.HandSPX.refsVE [.type "ValueError", .type "Exception", .type "BaseException", .type "object"] = true by decide +kernel)
    have neB : ∀ C : Addr, PySem.W.subIn K (.ref C) (.ref CB) = some true → C = CB → true = true := fun _ _ _ => rfl
    have Er0 : SqX.Er K l.prog C0 I0 "InvalidList.__init__" := ⟨⟨_, _, _, _, _, _, _, _, _, _, _, _, _, _, _, xL0, bmV⟩, sa0, nv0, iC0, tI0, kC0, eC0, vC0, tC0, mC0, su0, third, zSup, hTop, ⟨_, _, _, _, _, _, _, _, _, _, _, _, _, _, _, _, _, _, _, _, _, _, _, _, _, _, _, _, _, _, _, _, fI0, cI0, lc0, vf0, mf0, lk0, ln0⟩⟩
    have Ex0 : ExcC K C0 := ⟨ga0, gg0, eC0, hd0, ha0, spC, tkC, mo0⟩
    have Xf0 : XfC K C0 := ⟨ga0, gg0, eC0, hd0⟩
    have Er1 : SqX.Er K l.prog C1 I1 "InvalidNumber.__init__" := ⟨⟨_, _, _, _, _, _, _, _, _, _, _, _, _, _, _, xL1, bmV⟩, sa1, nv1, iC1, tI1, kC1, eC1, vC1, tC1, mC1, su1, third, zSup, hTop, ⟨_, _, _, _, _, _, _, _, _, _, _, _, _, _, _, _, _, _, _, _, _, _, _, _, _, _, _, _, _, _, _, _, fI1, cI1, lc1, vf1, mf1, lk1, ln1⟩⟩
    have Ex1 : ExcC K C1 := ⟨ga1, gg1, eC1, hd1, ha1, spC, tkC, mo1⟩
    have Xf1 : XfC K C1 := ⟨ga1, gg1, eC1, hd1⟩
    have Er2 : SqX.Er K l.prog C2 I2 "InvalidCharacter.__init__" := ⟨⟨_, _, _, _, _, _, _, _, _, _, _, _, _, _, _, xL2, bmV⟩, sa2, nv2, iC2, tI2, kC2, eC2, vC2, tC2, mC2, su2, third, zSup, hTop, ⟨_, _, _, _, _, _, _, _, _, _, _, _, _, _, _, _, _, _, _, _, _, _, _, _, _, _, _, _, _, _, _, _, fI2, cI2, lc2, vf2, mf2, lk2, ln2⟩⟩
    have Ex2 : ExcC K C2 := ⟨ga2, gg2, eC2, hd2, ha2, spC, tkC, mo2⟩
    have Xf2 : XfC K C2 := ⟨ga2, gg2, eC2, hd2⟩
    have Er3 : SqX.Er K l.prog C3 I3 "NothingToUndo.__init__" := ⟨⟨_, _, _, _, _, _, _, _, _, _, _, _, _, _, _, xL3, bmV⟩, sa3, nv3, iC3, tI3, kC3, eC3, vC3, tC3, mC3, su3, third, zSup, hTop, ⟨_, _, _, _, _, _, _, _, _, _, _, _, _, _, _, _, _, _, _, _, _, _, _, _, _, _, _, _, _, _, _, _, fI3, cI3, lc3, vf3, mf3, lk3, ln3⟩⟩
    have Ex3 : ExcC K C3 := ⟨ga3, gg3, eC3, hd3, ha3, spC, tkC, mo3⟩
    have Xf3 : XfC K C3 := ⟨ga3, gg3, eC3, hd3⟩
    have Er4 : SqX.Er K l.prog C4 I4 "Unreadable.__init__" := ⟨⟨_, _, _, _, _, _, _, _, _, _, _, _, _, _, _, xL4, bmV⟩, sa4, nv4, iC4, tI4, kC4, eC4, vC4, tC4, mC4, su4, third, zSup, hTop, ⟨_, _, _, _, _, _, _, _, _, _, _, _, _, _, _, _, _, _, _, _, _, _, _, _, _, _, _, _, _, _, _, _, fI4, cI4, lc4, vf4, mf4, lk4, ln4⟩⟩
    have Ex4 : ExcC K C4 := ⟨ga4, gg4, eC4, hd4, ha4, spC, tkC, mo4⟩
    have Xf4 : XfC K C4 := ⟨ga4, gg4, eC4, hd4⟩
    have ne : ∀ {i j : Nat} {A B : Addr}, PySem.W.subIn K (.ref A) (.ref A) = some true → PySem.W.subIn K (.ref A) (.ref B) = some false → A = B → false = true := fun a b e => by subst e; rw [a] at b; cases b
    have Z : Errs l.prog K mg (fun n => [C0, C1, C2, C3, C4].getD n C0) (fun n => [I0, I1, I2, I3, I4].getD n I0) (fun n => (["InvalidList.__init__", "InvalidNumber.__init__", "InvalidCharacter.__init__", "NothingToUndo.__init__", "Unreadable.__init__"] : List Str).getD n "InvalidList.__init__") CB := {
      er := fun n hn => match n, hn with | 0, _ => ⟨trivial, Er0⟩ | 1, _ => ⟨trivial, Er1⟩ | 2, _ => ⟨trivial, Er2⟩ | 3, _ => ⟨trivial, Er3⟩ | 4, _ => ⟨trivial, Er4⟩
      g0 := PySem.W.mg_of X G aC0
      g1 := PySem.W.mg_of X G aC1
      g2 := PySem.W.mg_of X G aC2
      g3 := PySem.W.mg_of X G aC3
      g4 := PySem.W.mg_of X G aC4
      g5 := PySem.W.mg_of X G aCB
      is := fun n m hn hm => match n, m, hn, hm with | 0, 0, _, _ => kit_own ic0 tC0 s0_0 (fun _ => rfl) | 0, 1, _, _ => kit_own ic1 tC1 s0_1 (ne (i := 0) (j := 0) s0_0 s0_1) | 0, 2, _, _ => kit_own ic2 tC2 s0_2 (ne (i := 0) (j := 0) s0_0 s0_2) | 0, 3, _, _ => kit_own ic3 tC3 s0_3 (ne (i := 0) (j := 0) s0_0 s0_3) | 0, 4, _, _ => kit_own ic4 tC4 s0_4 (ne (i := 0) (j := 0) s0_0 s0_4) | 1, 0, _, _ => kit_own ic0 tC0 s1_0 (ne (i := 0) (j := 0) s1_1 s1_0) | 1, 1, _, _ => kit_own ic1 tC1 s1_1 (fun _ => rfl) | 1, 2, _, _ => kit_own ic2 tC2 s1_2 (ne (i := 0) (j := 0) s1_1 s1_2) | 1, 3, _, _ => kit_own ic3 tC3 s1_3 (ne (i := 0) (j := 0) s1_1 s1_3) | 1, 4, _, _ => kit_own ic4 tC4 s1_4 (ne (i := 0) (j := 0) s1_1 s1_4) | 2, 0, _, _ => kit_own ic0 tC0 s2_0 (ne (i := 0) (j := 0) s2_2 s2_0) | 2, 1, _, _ => kit_own ic1 tC1 s2_1 (ne (i := 0) (j := 0) s2_2 s2_1) | 2, 2, _, _ => kit_own ic2 tC2 s2_2 (fun _ => rfl) | 2, 3, _, _ => kit_own ic3 tC3 s2_3 (ne (i := 0) (j := 0) s2_2 s2_3) | 2, 4, _, _ => kit_own ic4 tC4 s2_4 (ne (i := 0) (j := 0) s2_2 s2_4) | 3, 0, _, _ => kit_own ic0 tC0 s3_0 (ne (i := 0) (j := 0) s3_3 s3_0) | 3, 1, _, _ => kit_own ic1 tC1 s3_1 (ne (i := 0) (j := 0) s3_3 s3_1) | 3, 2, _, _ => kit_own ic2 tC2 s3_2 (ne (i := 0) (j := 0) s3_3 s3_2) | 3, 3, _, _ => kit_own ic3 tC3 s3_3 (fun _ => rfl) | 3, 4, _, _ => kit_own ic4 tC4 s3_4 (ne (i := 0) (j := 0) s3_3 s3_4) | 4, 0, _, _ => kit_own ic0 tC0 s4_0 (ne (i := 0) (j := 0) s4_4 s4_0) | 4, 1, _, _ => kit_own ic1 tC1 s4_1 (ne (i := 0) (j := 0) s4_4 s4_1) | 4, 2, _, _ => kit_own ic2 tC2 s4_2 (ne (i := 0) (j := 0) s4_4 s4_2) | 4, 3, _, _ => kit_own ic3 tC3 s4_3 (ne (i := 0) (j := 0) s4_4 s4_3) | 4, 4, _, _ => kit_own ic4 tC4 s4_4 (fun _ => rfl)
      isB := fun n hn => match n, hn with | 0, _ => kit_own iCB tCB sB0 (fun _ => rfl) | 1, _ => kit_own iCB tCB sB1 (fun _ => rfl) | 2, _ => kit_own iCB tCB sB2 (fun _ => rfl) | 3, _ => kit_own iCB tCB sB3 (fun _ => rfl) | 4, _ => kit_own iCB tCB sB4 (fun _ => rfl)
      isV := fun n hn => match n, hn with | 0, _ => kit_base (by decide +kernel) vC0 | 1, _ => kit_base (by decide +kernel) vC1 | 2, _ => kit_base (by decide +kernel) vC2 | 3, _ => kit_base (by decide +kernel) vC3 | 4, _ => kit_base (by decide +kernel) vC4
      ex := fun n hn => match n, hn with | 0, _ => Ex0 | 1, _ => Ex1 | 2, _ => Ex2 | 3, _ => Ex3 | 4, _ => Ex4
      xf := fun n hn => match n, hn with | 0, _ => Xf0 | 1, _ => Xf1 | 2, _ => Xf2 | 3, _ => Xf3 | 4, _ => Xf4 }
    have Z2 : Errs2 K (fun n => [C0, C1, C2, C3, C4].getD n C0) CB := {
      ma := fun n hn => match n, hn with | 0, _ => PySem.W.exm_ref eCB hdB tCB sB0 | 1, _ => PySem.W.exm_ref eCB hdB tCB sB1 | 2, _ => PySem.W.exm_ref eCB hdB tCB sB2 | 3, _ => PySem.W.exm_ref eCB hdB tCB sB3 | 4, _ => PySem.W.exm_ref eCB hdB tCB sB4
      st := fun n hn => match n, hn with | 0, _ => st0 | 1, _ => st1 | 2, _ => st2 | 3, _ => st3 | 4, _ => st4
      nv := fun n hn => match n, hn with | 0, _ => nv0 | 1, _ => nv1 | 2, _ => nv2 | 3, _ => nv3 | 4, _ => nv4 }
    have D_isnumber : Df l.prog w K mg base 1 "is_number" ["digits"] spIsNum := .mk' F_isnumber (ok_isnumber F_isnumber B (PySem.W.mg_of X G aMD)) g_isnumber b_isnumber
    have Y_readlist := ok_readlist (P := l.prog) (w := w) (mg := mg) (base := base) F_readlist B Z D_isnumber
    have X_readlist : Dn l.prog w K mg base 2 "read_list" ["text"] (spReadX (fun n => [C0, C1, C2, C3, C4].getD n C0)) := .mk' F_readlist Y_readlist g_readlist b_readlist
    have XK_readlist : Dnk l.prog w K mg base 2 "read_list" ["text"] ["text"] (fun us ws => us ++ ws) (fun us zs => us ++ zs) (spReadX (fun n => [C0, C1, C2, C3, C4].getD n C0)) := ⟨⟨_, _, Y_readlist, g_readlist, F_readlist.kp, kb_readlist F_readlist⟩⟩
    have D_lawrng : Df l.prog w K mg base 1 "_law_rng" ["script"] (spRng K) := .mk' F_lawrng (ok_lawrng F_lawrng B) g_lawrng b_lawrng
    have D_lawdraw : Df l.prog w K mg base 1 "_law_draw" ["rng", "limit"] spDraw := .mk' F_lawdraw (ok_lawdraw F_lawdraw) g_lawdraw b_lawdraw
    have D_lawnumber : Df l.prog w K mg base 1 "_law_number" ["word", "least"] spNumber := .mk' F_lawnumber (ok_lawnumber F_lawnumber B) g_lawnumber b_lawnumber
    have D_lawdue : Df l.prog w K mg base 2 "_law_due" ["written"] spDue := .mk' F_lawdue (ok_lawdue F_lawdue B D_lawnumber) g_lawdue b_lawdue
    have D_lawtold : Df l.prog w K mg base 4 "_law_told" ["written", "by_name"] spTold := .mk' F_lawtold (ok_lawtold F_lawtold B Z Z2 X_readlist XK_readlist) g_lawtold b_lawtold
    have D_lawparts : Df l.prog w K mg base 2 "_law_parts" ["rng"] spParts := .mk' F_lawparts (ok_lawparts F_lawparts B D_lawdraw) g_lawparts b_lawparts
    have D_lawbent : Df l.prog w K mg base 2 "_law_bent" ["rng", "written"] spBent := .mk' F_lawbent (ok_lawbent F_lawbent B D_lawdraw) g_lawbent b_lawbent
    have D_lawsmall : Df l.prog w K mg base 1 "_law_small" ["written"] spSmall := .mk' F_lawsmall (ok_lawsmall F_lawsmall B) g_lawsmall b_lawsmall
    have D_lawright : Dg l.prog w K mg base 5 "_law_right" ["one"] spRight := .mk' F_lawright (ok_lawright F_lawright B D_lawdue D_lawtold) g_lawright b_lawright
    exact ok_law F_law B D_lawrng D_lawdraw D_lawparts D_lawbent D_lawsmall D_lawright⟩
end Sq
open PySem PySem.W PyProof.Rows
set_option maxRecDepth 100000 in
set_option maxHeartbeats 0 in
theorem PySem.Challenge.cw_squeezelists_k41_texts_read_holds : PySem.Challenge.rw_squeezelists_k41_texts_read.Holds := by
  w_on; o_law; k_head; (case hw => w_witness2)
  k_fill
  refine Sq.walkAt (l := PySem.Challenge.rw_squeezelists_k41_texts_read) (n := 63) (k := 6) (x := "script") (sp := fun w => Sq.spLaw _) rfl (by decide) rfl (fun w h Y => PySem.W.kIn_of Y) ?F (fun _ _ a ns hl _ hS => ⟨a, ns, rfl, hS, hl, fun _ => rfl⟩)
  case F =>
    intro w mg fa h KX G hmg
    refine' Sq.all_mk KX G hmg ?a_readlist ?l_readlist ?c_readlist ?k_readlist ?a_isnumber ?l_isnumber ?c_isnumber ?k_isnumber ?a_lawrng ?l_lawrng ?c_lawrng ?k_lawrng ?a_lawdraw ?l_lawdraw ?c_lawdraw ?k_lawdraw ?a_lawnumber ?l_lawnumber ?c_lawnumber ?k_lawnumber ?a_lawdue ?l_lawdue ?c_lawdue ?k_lawdue ?a_lawtold ?l_lawtold ?c_lawtold ?k_lawtold ?a_lawparts ?l_lawparts ?c_lawparts ?k_lawparts ?a_lawbent ?l_lawbent ?c_lawbent ?k_lawbent ?a_lawsmall ?l_lawsmall ?c_lawsmall ?k_lawsmall ?a_lawright ?l_lawright ?c_lawright ?k_lawright ?a_law ?l_law ?c_law ?k_law ?z_len ?z_min ?z_max ?z_abs ?z_range ?z_isinstance ?z_repr ?z_enumerate ?z_reversed ?z_sorted ?z_bool ?z_int ?z_str ?z_list ?z_tuple ?z_set ?z_sum ?z_zip ?z_all ?z_any ?z_ValueError ?z_divmod ?aCB ?iCB ?tCB ?third ?zSup ?hTop ?spC ?tkC ?aC0 ?xL0 ?sa0 ?nv0 ?iC0 ?tI0 ?kC0 ?eC0 ?vC0 ?tC0 ?mC0 ?su0 ?fI0 ?cI0 ?lc0 ?vf0 ?mf0 ?lk0 ?ln0 ?ga0 ?gg0 ?hd0 ?ha0 ?mo0 ?ic0 ?sB0 ?aC1 ?xL1 ?sa1 ?nv1 ?iC1 ?tI1 ?kC1 ?eC1 ?vC1 ?tC1 ?mC1 ?su1 ?fI1 ?cI1 ?lc1 ?vf1 ?mf1 ?lk1 ?ln1 ?ga1 ?gg1 ?hd1 ?ha1 ?mo1 ?ic1 ?sB1 ?aC2 ?xL2 ?sa2 ?nv2 ?iC2 ?tI2 ?kC2 ?eC2 ?vC2 ?tC2 ?mC2 ?su2 ?fI2 ?cI2 ?lc2 ?vf2 ?mf2 ?lk2 ?ln2 ?ga2 ?gg2 ?hd2 ?ha2 ?mo2 ?ic2 ?sB2 ?aC3 ?xL3 ?sa3 ?nv3 ?iC3 ?tI3 ?kC3 ?eC3 ?vC3 ?tC3 ?mC3 ?su3 ?fI3 ?cI3 ?lc3 ?vf3 ?mf3 ?lk3 ?ln3 ?ga3 ?gg3 ?hd3 ?ha3 ?mo3 ?ic3 ?sB3 ?aC4 ?xL4 ?sa4 ?nv4 ?iC4 ?tI4 ?kC4 ?eC4 ?vC4 ?tC4 ?mC4 ?su4 ?fI4 ?cI4 ?lc4 ?vf4 ?mf4 ?lk4 ?ln4 ?ga4 ?gg4 ?hd4 ?ha4 ?mo4 ?ic4 ?sB4 ?s0_0 ?s0_1 ?s0_2 ?s0_3 ?s0_4 ?s1_0 ?s1_1 ?s1_2 ?s1_3 ?s1_4 ?s2_0 ?s2_1 ?s2_2 ?s2_3 ?s2_4 ?s3_0 ?s3_1 ?s3_2 ?s3_3 ?s3_4 ?s4_0 ?s4_1 ?s4_2 ?s4_3 ?s4_4 ?eCB ?hdB ?st0 ?st1 ?st2 ?st3 ?st4 ?aMD
    (case a_readlist => k_is); (case l_readlist => k_is); (case c_readlist => k_is); (case k_readlist => k_is); (case a_isnumber => k_is); (case l_isnumber => k_is); (case c_isnumber => k_is); (case k_isnumber => k_is); (case a_lawrng => k_is); (case l_lawrng => k_is); (case c_lawrng => k_is); (case k_lawrng => k_is); (case a_lawdraw => k_is); (case l_lawdraw => k_is); (case c_lawdraw => k_is); (case k_lawdraw => k_is); (case a_lawnumber => k_is); (case l_lawnumber => k_is); (case c_lawnumber => k_is); (case k_lawnumber => k_is); (case a_lawdue => k_is); (case l_lawdue => k_is); (case c_lawdue => k_is); (case k_lawdue => k_is); (case a_lawtold => k_is); (case l_lawtold => k_is); (case c_lawtold => k_is); (case k_lawtold => k_is); (case a_lawparts => k_is); (case l_lawparts => k_is); (case c_lawparts => k_is); (case k_lawparts => k_is); (case a_lawbent => k_is); (case l_lawbent => k_is); (case c_lawbent => k_is); (case k_lawbent => k_is); (case a_lawsmall => k_is); (case l_lawsmall => k_is); (case c_lawsmall => k_is); (case k_lawsmall => k_is); (case a_lawright => k_is); (case l_lawright => k_is); (case c_lawright => k_is); (case k_lawright => k_is); (case a_law => k_is); (case l_law => k_is); (case c_law => k_is); (case k_law => k_is); (case z_len => k_is); (case z_min => k_is); (case z_max => k_is); (case z_abs => k_is); (case z_range => k_is); (case z_isinstance => k_is); (case z_repr => k_is); (case z_enumerate => k_is); (case z_reversed => k_is); (case z_sorted => k_is); (case z_bool => k_is); (case z_int => k_is); (case z_str => k_is); (case z_list => k_is); (case z_tuple => k_is); (case z_set => k_is); (case z_sum => k_is); (case z_zip => k_is); (case z_all => k_is); (case z_any => k_is); (case z_ValueError => k_is); (case z_divmod => k_is); (case aCB => k_is); (case iCB => k_is); (case tCB => k_is); (case third => k_is); (case zSup => k_is); (case hTop => decide +kernel); (case spC => k_is); (case tkC => k_is); (case aC0 => k_is); (case xL0 => k_is); (case sa0 => k_is); (case nv0 => k_is); (case iC0 => k_is); (case tI0 => k_is); (case kC0 => k_is); (case eC0 => k_is); (case vC0 => k_is); (case tC0 => k_is); (case mC0 => k_is); (case su0 => ks_is); (case fI0 => k_is); (case cI0 => k_is); (case lc0 => k_is); (case vf0 => rfl); (case mf0 => decide +kernel); (case lk0 => k_is); (case ln0 => rfl); (case ga0 => k_is); (case gg0 => k_is); (case hd0 => k_is); (case ha0 => k_is); (case mo0 => k_is); (case ic0 => k_is); (case sB0 => k_is); (case aC1 => k_is); (case xL1 => k_is); (case sa1 => k_is); (case nv1 => k_is); (case iC1 => k_is); (case tI1 => k_is); (case kC1 => k_is); (case eC1 => k_is); (case vC1 => k_is); (case tC1 => k_is); (case mC1 => k_is); (case su1 => ks_is); (case fI1 => k_is); (case cI1 => k_is); (case lc1 => k_is); (case vf1 => rfl); (case mf1 => decide +kernel); (case lk1 => k_is); (case ln1 => rfl); (case ga1 => k_is); (case gg1 => k_is); (case hd1 => k_is); (case ha1 => k_is); (case mo1 => k_is); (case ic1 => k_is); (case sB1 => k_is); (case aC2 => k_is); (case xL2 => k_is); (case sa2 => k_is); (case nv2 => k_is); (case iC2 => k_is); (case tI2 => k_is); (case kC2 => k_is); (case eC2 => k_is); (case vC2 => k_is); (case tC2 => k_is); (case mC2 => k_is); (case su2 => ks_is); (case fI2 => k_is); (case cI2 => k_is); (case lc2 => k_is); (case vf2 => rfl); (case mf2 => decide +kernel); (case lk2 => k_is); (case ln2 => rfl); (case ga2 => k_is); (case gg2 => k_is); (case hd2 => k_is); (case ha2 => k_is); (case mo2 => k_is); (case ic2 => k_is); (case sB2 => k_is); (case aC3 => k_is); (case xL3 => k_is); (case sa3 => k_is); (case nv3 => k_is); (case iC3 => k_is); (case tI3 => k_is); (case kC3 => k_is); (case eC3 => k_is); (case vC3 => k_is); (case tC3 => k_is); (case mC3 => k_is); (case su3 => ks_is); (case fI3 => k_is); (case cI3 => k_is); (case lc3 => k_is); (case vf3 => rfl); (case mf3 => decide +kernel); (case lk3 => k_is); (case ln3 => rfl); (case ga3 => k_is); (case gg3 => k_is); (case hd3 => k_is); (case ha3 => k_is); (case mo3 => k_is); (case ic3 => k_is); (case sB3 => k_is); (case aC4 => k_is); (case xL4 => k_is); (case sa4 => k_is); (case nv4 => k_is); (case iC4 => k_is); (case tI4 => k_is); (case kC4 => k_is); (case eC4 => k_is); (case vC4 => k_is); (case tC4 => k_is); (case mC4 => k_is); (case su4 => ks_is); (case fI4 => k_is); (case cI4 => k_is); (case lc4 => k_is); (case vf4 => rfl); (case mf4 => decide +kernel); (case lk4 => k_is); (case ln4 => rfl); (case ga4 => k_is); (case gg4 => k_is); (case hd4 => k_is); (case ha4 => k_is); (case mo4 => k_is); (case ic4 => k_is); (case sB4 => k_is); (case s0_0 => k_is); (case s0_1 => k_is); (case s0_2 => k_is); (case s0_3 => k_is); (case s0_4 => k_is); (case s1_0 => k_is); (case s1_1 => k_is); (case s1_2 => k_is); (case s1_3 => k_is); (case s1_4 => k_is); (case s2_0 => k_is); (case s2_1 => k_is); (case s2_2 => k_is); (case s2_3 => k_is); (case s2_4 => k_is); (case s3_0 => k_is); (case s3_1 => k_is); (case s3_2 => k_is); (case s3_3 => k_is); (case s3_4 => k_is); (case s4_0 => k_is); (case s4_1 => k_is); (case s4_2 => k_is); (case s4_3 => k_is); (case s4_4 => k_is); (case eCB => k_is); (case hdB => k_is); (case st0 => k_is); (case st1 => k_is); (case st2 => k_is); (case st3 => k_is); (case st4 => k_is); (case aMD => k_is)


