import PyProof.Rows.All
import Wide.All
import OpenK.AllK
import Wide.FinOn
import HandS.ForMost
import HandS.IsInst
import HandS.Walk
import HandS.Defaults
import HandS.RaiseMore
import HandS.Wide
import HandS.Exc
import HandS.ExcOwn
import HandS.ExcInit
import HandS.ExcSuper
import KE.KExcSuper
import HandS.ExcValue
import HandS.ExcIs
import HandS.ExcField
import HandS.GenList
import HandS.WordsExc
import HandS.HotCalls
import HandS.Comp
import HandS.Deep
import HandS.Text
import HandS.StrMore
import HandS.Style
import HandS.GenBody
import HandS.GenYield
import PyProof.GenComp
import PyProof.ForAny
import HandS.Strs
import HandS.SetBool
import HandS.SuiteRaise
import HandS.Iter
import HandS.Property
import HandS.MakeKw
import HandS.MakeKwOnly
import PyProof.FactsSeq
import HandS.Replace
import HandS.GenOver
import HandS.Words
import HandS.WideBits
import HandS.Zip0
import HandS.Zip
import PyProof.LongRange
import KE.DataCmp
import HandS.More
import HandS.FStr
import HandS.NoneIn
import PySem.Challenge.RW_squeezelists_k02_lengths_of_runs
set_option Elab.async false
set_option linter.all false
set_option maxRecDepth 100000
set_option maxHeartbeats 2000000
/-! The layer for the laws: a def of the law run at the outermost call (where no repr is under way), repr of data, calls by keywords alone. -/
namespace Sq
open PySem PySem.Spec PyProof.Rows L2
/-! ### the law's own def, at one given surrounding -/
theorem fnAt {CX : CXT} {P : Program} {w : World} {K : PySem.W.Frag} {mg : Str → Option Value} {base : Heap} {k : Nat} {f : Addr} {nmF qualF : Str} {prm : Arguments} {bd : List Stmt} {scp : Scope}
    {dflt kwd docv pmv cdv ctv ocv : Value} {anv odv : Option Addr} {slv : Array (Option Value)} {names prs : List Str} {sp : Sp} {A : Around}
    (stands : K.lookup f = some ⟨ocv, odv, .func (PySem.W.fnOf nmF qualF prm bd scp dflt kwd docv pmv anv cdv ctv), slv⟩)
    (code : PySem.W.codeIn K cdv qualF = true) (sc : FnScope names prs scp)
    (count : ∀ vs H Q E, sp vs H Q E → vs.length = prs.length)
    (inner : ∀ (outer : List Env) (s : Shared) (H : Hp) (vs : List V) (Q : VK) (E : XK), Room k (A.deeper (envOfC qualF scp s.heap.objs.size f cdv)) → sp vs H Q E →
      ∃ t, PSs (cxOf CX P w K mg base names qualF scp f cdv A outer s H E) bd t ∧ t { nx := fun _ H' => Q .non H', rt := Q } (start names vs) H)
    {outer : List Env} {s : Shared} {H : Hp} {ag : Args} {us : List Value} {vs : List V} {Q : VK} {E : XK}
    (room : Room (k + 1) A) (entry : Env0 P w K mg base A outer s H)
    (bound : BindsTo s (PySem.W.fnOf nmF qualF prm bd scp dflt kwd docv pmv anv cdv ctv) ag (prs.zip us)) (rel : Vals vs us) (wish : sp vs H Q E) :
    codeAny (model P w) A (.call (.ref f) ag) (CR CX outer P w H s Q E) s := by
  have written : K.In s.heap := entry.mod.kin.keeps (fun b o e => (entry.bs b o e).1)
  have roomy : s.heap.NoLimit := entry.mod.nolimit.keeps (fun b o e => (entry.bs b o e).1)
  refine codeAny_call_function room.depth (written _ _ stands) rfl sc.co sc.gen rfl (PySem.W.codeRec_of written code) (bound _ _ _ _ ?_)
  refine wpAny_newFunctionEnv_cells sc.kind ?kinds ?body
  case kinds =>
    rintro ⟨n, v⟩ hn
    have inP := (List.of_mem_zip hn).1
    cases sc.par n inP with
    | inl q => exact Or.inl q
    | inr q => exact Or.inr ⟨q, PySem.W.cellsFrom_some _ _ _ (Or.inl q)⟩
  case body =>
    intro env eqn s1 fresh
    subst eqn
    refine ⟨roomy.keeps fresh.toInCall.keep, codeAny_func ?_⟩
    obtain ⟨t, steps, holds⟩ := inner outer s H vs Q E (room.deeper _) wish
    have inv := inv_start (CX := CX) (mg := mg) (base := base) (E := E) sc room.hd entry (count _ _ _ _ wish) rel fresh
    refine wpAny_mono (steps.run [] s1 (start names vs) H _ inv holds) ?_ (fun _ _ q => q)
    intro flow s' got
    cases flow with
    | ret u =>
      obtain ⟨v, σ', H', J, rv, q⟩ := got
      exact ⟨v, H', J.os, J.bare, J.base, J.hok, rv, q⟩
    | next =>
      obtain ⟨σ', H', J, q⟩ := got
      exact ⟨V.non, H', J.os, J.bare, J.base, J.hok, rfl, q⟩
    | brk => exact got.elim fun _ h => h.elim fun _ h => False.elim h.2
    | cont => exact got.elim fun _ h => h.elim fun _ h => False.elim h.2
/-- what the top's def promises at the outermost call alone -/
def Top (P : Program) (w : World) (K : PySem.W.Frag) (mg : Str → Option Value) (base : Heap) (k : Nat) (f : Addr) (fd : FuncData) (x : Str) (sp : Sp) : Prop :=
  ∀ (s : Shared) (H : Hp) (ag : Args) (u : Value) (v : V) (Q : VK), Env0 P w K mg base callerA [] s H → BindsTo s fd ag [(x, u)] → RelV v u → sp [v] H Q (fun _ _ _ => False) →
    codeAny (model P w) callerA (.call (.ref f) ag) (CR CX0 [] P w H s Q (fun _ _ _ => False)) s
theorem atTop {P : Program} {w : World} {K : PySem.W.Frag} {mg : Str → Option Value} {base : Heap} {k : Nat} {f : Addr} {fd : FuncData} {x y qual : Str} {st : Stmt} {names : List Str} {sp : Sp}
    (F : Fun K y qual st f fd) (sc : FnScope names [x] (defScope st)) (room : Room (k + 1) callerA) (count : ∀ vs H Q E, sp vs H Q E → vs.length = 1)
    (inner : ∀ (cdv : Value) (outer : List Env) (s : Shared) (H : Hp) (vs : List V) (Q : VK) (E : XK), Room k (callerA.deeper (envOfC qual (defScope st) s.heap.objs.size f cdv)) → sp vs H Q E →
      ∃ t, PSs (cxOf CX0 P w K mg base names qual (defScope st) f cdv callerA outer s H E).nox (defBody st) t ∧ t { nx := fun _ H' => Q .non H', rt := Q } (start names vs) H) :
    Top P w K mg base k f fd x sp := by
  intro s H ag u v Q e0 hb hv hs
  obtain ⟨oc, od, kV, doc, pm, an, cdv, ct, osl, rfl, lk, hcd⟩ := F.ex
  refine fnAt (us := [u]) (vs := [v]) lk hcd sc count (fun outer s' H' vs' Q' E' room' wish => ?_) room e0 hb (.cons hv .nil) hs
  obtain ⟨t, h, q⟩ := inner cdv outer s' H' vs' Q' E' room' wish
  exact ⟨t, h.nox, q⟩
/-- from the def's promise at the outermost call to the row's claim about that call -/
theorem lawAt {P : Program} {w : World} {K : PySem.W.Frag} {mg mb : Str → Option Value} {k : Nat} {fa a : Addr} {fd : FuncData} {x : Str} {sp : Sp} {s₁ : Shared} {cells : List Value} {nums : List Int}
    (inK : K.In s₁.heap) (nsM : s₁.heap.Ns mainGlobals mg) (nsB : s₁.heap.Ns builtinsNs mb) (boot : ∀ y : Str, y ≠ "__name__" → mb y = bootBuiltins y) (lim : s₁.heap.NoLimit) (gens : s₁.gens = #[])
    (script : s₁.heap.get? a = some { cls := .type "list", data := .seq cells.toArray }) (are : IntsAre cells nums) (few : nums.length ≤ sizeLine)
    (main : ∀ base : Heap, K.In base → base.Ns mainGlobals mg → Top P w K mg base k fa fd x sp) (binds : ∀ (s : Shared) (u : Value), BindsTo s fd ⟨[u], []⟩ [(x, u)])
    (told : ∀ H : Hp, Only H → SqL K H a (nums.map V.int) → sp [.ref a] H (fun v _ => v = .bl true) fun _ _ _ => False) :
    codeAny (model P w) callerA (.call (.ref fa) ⟨[.ref a], []⟩) (fun r s' => r = .ok (.ret (.bool true)) ∧ OldK s₁.heap s'.heap ∧ s'.os = s₁.os ∧ AllBare s'.gens) s₁ := by
  have rel := vals_ints are
  have same := are.length
  suffices goal : ∀ H : Hp, Only H → SqL K H a (nums.map V.int) → HOk P w H s₁.heap → (∀ b o, H b = some o → b = a ∧ K.lookup a = none) →
      codeAny (model P w) callerA (.call (.ref fa) ⟨[.ref a], []⟩) (fun r s' => r = .ok (.ret (.bool true)) ∧ OldK s₁.heap s'.heap ∧ s'.os = s₁.os ∧ AllBare s'.gens) s₁ by
    cases look : K.lookup a with
    | some o =>
      have here := inK a o look
      rw [script] at here
      cases here
      exact goal (fun _ => none) (fun _ => Or.inl rfl) (Or.inr ⟨_, cells.toArray, _, look, rfl, rfl, rfl, (by rw [List.size_toArray, same]; exact few), (by simpa using rel)⟩) (fun b u z => by cases (show (none : Option HO) = some u from z)) (fun b o z => by cases (show (none : Option HO) = some o from z))
    | none =>
      let Ha : Hp := fun b => if b = a then some (.frz { cls := .type "list", data := .seq cells.toArray } (.lst (nums.map V.int))) else none
      have at_a : Ha a = some (.frz { cls := .type "list", data := .seq cells.toArray } (.lst (nums.map V.int))) := if_pos rfl
      have off : ∀ b o, Ha b = some o → b = a := fun b o z => by
        by_cases hb : b = a
        · exact hb
        · rw [show Ha b = none from if_neg hb] at z
          cases z
      refine goal Ha (fun b => ?_) (Or.inl (Or.inr ⟨_, at_a⟩)) (fun b u z => ?_) (fun b o z => ⟨off b o z, look⟩)
      · by_cases hb : b = a
        · exact Or.inr ⟨_, _, if_pos hb⟩
        · exact Or.inl (if_neg hb)
      · obtain rfl := off b u z
        rw [at_a] at z
        cases z
        exact ⟨script, by rw [List.length_map]; exact few, cells, _, rel, script⟩
  intro H only seq hok apart
  have free : ∀ {b : Addr} {o : Obj}, s₁.heap.get? b = some o → (∀ u, H b = some u → False) → (hidT s₁.heap H).get? b = some o := fun {b o} e n =>
    hidT_get e (by
      cases q : H b with
      | none => rfl
      | some u => exact (n u q).elim)
  have nsH : ∀ {b : Addr} {m : Str → Option Value}, s₁.heap.Ns b m → (hidT s₁.heap H).Ns b m := by
    rintro b m ⟨o, es, ep, e, d, r⟩
    refine ⟨o, es, ep, free e fun u z => ?_, d, r⟩
    obtain ⟨rfl, _⟩ := apart b u z
    rw [script] at e
    cases e
    cases (show Data.seq cells.toArray _ = Data.dict es ep from d)
  have kH : K.In (hidT s₁.heap H) := fun b o e => free (inK b o e) fun u z => by
    obtain ⟨rfl, n⟩ := apart b u z
    rw [n] at e
    cases e
  have mod : Mod K mg (hidT s₁.heap H) := ⟨kH, nsH nsM, ⟨mb, nsH nsB, boot⟩, let ⟨mc, h1, h2⟩ := lim; ⟨mc, nsH h1, h2⟩⟩
  have entry : Env0 P w K mg (hidT s₁.heap H) callerA [] s₁ H :=
    ⟨rfl, mod, fun b o e => of_hidT e, Nat.le_of_eq (hidT_size _ _), trivial, fun b hb => absurd (show b ∈ ([] : List Addr) from hb) (by simp), hok, .of_eq gens⟩
  refine codeAny_mono (main _ kH (nsH nsM) s₁ H ⟨[.ref a], []⟩ (.ref a) (.ref a) _ entry (binds s₁ (.ref a)) rfl (told H only seq)) ?_
  intro r s' got
  match r, got with
  | .ok (.ret u), got =>
    obtain ⟨v, H', os, bare, un, hok', rv, q⟩ := got
    obtain rfl : v = .bl true := q
    obtain rfl : u = Value.bool true := rv
    refine ⟨rfl, OldK.of_keep fun b o e => ?_, os, bare⟩
    rcases only b with z | ⟨ob, xs, z⟩
    · exact un.keep b o e z (by intro y; exact absurd (show b ∈ ([] : List Addr) from y) (by simp)) (by simp)
    · obtain ⟨e1, _⟩ := hok b _ z
      obtain ⟨e2, _⟩ := hok' b _ (un.frzs b ob _ z)
      rw [e] at e1
      cases e1
      exact e2
/-- the goal that k_head leaves, from the law's promise at the outermost call -/
theorem walkAt {l : PySem.W.OpenLaw} {n k : Nat} {q : Program} {loose : List Str} {XP : (Str → Option Value) → Heap → Prop} {YP : World → Heap → Prop} {d : DefRec} {K : Params → PySem.W.Frag} {sp : World → Sp} {x : Str}
    (most : l.most = some n) (line : n ≤ sizeLine) (plain : d.params.defaults = []) (inK : ∀ (w : World) (h : Heap), YP w h → (K w.params).In h)
    (F : ∀ (w : World) (mg : Str → Option Value) (fa : Addr) (h : Heap), (K w.params).In h → h.Ns mainGlobals mg → mg d.name = some (.ref fa) →
      ∃ fd : FuncData, (∀ (s : Shared) (u : Value), BindsTo s fd ⟨[u], []⟩ [(x, u)]) ∧ ∀ base : Heap, (K w.params).In base → base.Ns mainGlobals mg → Top l.prog w (K w.params) mg base k fa fd x (sp w))
    (told : ∀ (w : World) (H : Hp) (a : Addr) (ns : List Int), ns.length ≤ n → Only H → SqL (K w.params) H a (ns.map V.int) → sp w [.ref a] H (fun v _ => v = .bl true) fun _ _ _ => False) :
    PySem.W.WalkO q loose XP YP l.row.toRowW d [] (fun f vs => PySem.call f vs) := by
  refine Att.attach_call most plain ?_
  intro w s₀ s₁ mg mb fa o pm cd doc a vs ns G Y ho hd hcd hmg hobj hints hlen hg
  obtain ⟨fd, hb, hF⟩ := F w mg fa _ (inK w _ Y) G.T.g hmg
  exact lawAt (inK w _ Y) G.T.g G.T.b G.T.builtins G.T.nolimit hg hobj hints (Nat.le_trans hlen line) hF hb fun H hO hS => told w H a ns hlen hO hS
/-! ### repr of data, where no repr is under way -/
def rReprD (K : PySem.W.Frag) : List V → Hp → VK → Prop := fun xs H Q => ∃ a d, xs = [.ref a] ∧ Dp K H (.ref a) d ∧ d.showable = true ∧ d.hasDict = false ∧ d.depth ≤ 40 ∧ d.shown.length ≤ sizeLine ∧ Q (.str d.shown) H
theorem call_reprD {X : Cx} (hg : X.A.guards = some []) (hu : X.A.units + 64 < cLine) : CallR X (.builtin "repr") (rReprD X.K) := by
  intro pins s σ H xs us Q I r h
  obtain ⟨a, d, rfl, hd, sh, nd, dep, sz, q⟩ := h
  obtain ⟨u, rfl, rv⟩ := vals1 r
  obtain rfl : u = Value.ref a := rv
  obtain ⟨as, rd⟩ := Dp.reads I d _ _ hd (show RelV (.ref a) (.ref a) from rfl)
  refine repr_of_reads' rd sh (by rw [nd]; exact fun z => nomatch z) hg (by omega) (fun b o e => e) (fun h' u tk keep => ?_) sz
  exact ⟨.str _, H, I.kept keep, ⟨_, rfl⟩, q⟩
/-! ### f(k = v, ..): keywords alone -/
section
variable {X : Cx} {CX : CXT} {k : Nat} {f : Addr} {fd : FuncData} {ps ks : List Str} {sp : Sp} {E : XK} {x : Str} {p pos : Pos} {kws : List Keyword} {tk : TA} {g : List Value → List Value → List Value} {gV : List V → List V → List V}
theorem pe_callK0 (F : FnOk X.prog X.w X.K X.mg X.base CX k f fd ps sp) (hr : Room k X.A) (hg : Gl X x) (hm : X.mg x = some (.ref f)) (hk : PySem.W.keepIn X.K (.ref f) = true) (hb : KBn X.K fd ps 0 ks g gV) (hx : Passes CX X E) (hkw : PK X kws tk)
    (hall : (backToKw pos (keywordEach kws X.env)).all (·.1.isSome) = true := by rfl) (hks : (backToKw pos (keywordEach kws X.env)).filterMap (·.1) = ks := by rfl) (hdb : (x == ("__debug__" : Str)) = false := by decide)
    (hpl : ((backTo pos (starEach [] X.env)).any (·.1) || (backToKw pos (keywordEach kws X.env)).any (·.1.isNone)) = false := by rfl) :
    PE X (.Call (.Name x p) [] kws pos) (tCallN 0 ks.length sp gV E tNil tk) := by
  refine ⟨fun pins s σ H Q I h => ?_⟩
  refine wpAny_Call_Name_kw (ld_glob I hg hm ?_ hdb)
  refine PySem.W.callWith_KW0 (h₀ := X.base) I.ok.mod.kin hk hall ?_ hpl
  refine thn (hkw.run pos pins s σ H _ I h) ?_
  rintro ws s2 ⟨zs, H2, I2, rz, l1, l2, q2⟩
  refine ⟨I2.kIn, ?_⟩
  rw [hks]
  exact run_fnN F hr hb hx I2 (.nil) rz l1 l2 q2
end
end Sq
namespace Sq
open PySem PySem.Spec PyProof.Rows L2
/-- what a caller wants of a def of the text: it stands at its name and keeps its promise -/
structure Df (P : Program) (w : World) (K : PySem.W.Frag) (mg : Str → Option Value) (base : Heap) (k : Nat) (x : Str) (ps : List Str) (sp : Sp) : Prop where
  ex : ∃ f fd, FnOk P w K mg base CX0 k f fd ps sp ∧ mg x = some (.ref f) ∧ PySem.W.keepIn K (.ref f) = true ∧ Binds K fd ps []
section
variable {X : Cx} {k : Nat} {ps : List Str} {sp : Sp} {x : Str} {p pos : Pos} {e : Expr} {es : List Expr} {t : TA}
theorem pe_callD (D : Df X.prog X.w X.K X.mg X.base k x ps sp) (hr : Room k X.A) (hg : Gl X x) (ha : PA X (e :: es) t) (hdb : (x == ("__debug__" : Str)) = false := by decide)
    (he : starEach (e :: es) X.env = (false, eval e X.env) :: starEach es X.env := by rfl) (hpl : (backTo pos (starEach es X.env)).any (·.1) = false := by rfl) :
    PE X (.Call (.Name x p) (e :: es) [] pos) (tCall sp [] E0 t) := by
  obtain ⟨f, fd, F, g, kp, b⟩ := D.ex
  exact pe_call F hr hg g kp b .nil pass0 ha hdb he hpl
end
section
variable {P : Program} {w : World} {K : PySem.W.Frag} {mg : Str → Option Value} {base : Heap}
/-- a def without defaults, from its place in the text and its promise -/
theorem Df.mk' {k : Nat} {x : Str} {st : Stmt} {ps : List Str} {sp : Sp} {f : Addr} {fd : FuncData} (F : Fun K x x st f fd) (G : FnOk P w K mg base CX0 k f fd ps sp) (g : mg x = some (.ref f)) (b : Binds K fd ps []) : Df P w K mg base k x ps sp :=
  ⟨⟨f, fd, G, g, F.kp, b⟩⟩
end
end Sq
namespace Sq
open PySem PySem.Spec PyProof.Rows L2
/-- a def with defaults, no error leaves it -/
theorem okD {P : Program} {w : World} {K : PySem.W.Frag} {mg : Str → Option Value} {base : Heap} {x qual : Str} {prm : Arguments} {bd : List Stmt} {scp : Scope} {dvs : List V} {kws : List (Str × V)} {f : Addr} {fd : FuncData} {names ps : List Str} {k : Nat} {sp : Sp}
    (F : FunD K x qual prm bd scp dvs kws f fd) (sc : FnScope names ps scp) (count : ∀ vs H Q E, sp vs H Q E → vs.length = ps.length)
    (inner : ∀ (cdv : Value) (A : Around) (outer : List Env) (s : Shared) (H : Hp) (vs : List V) (Q : VK) (E : XK), Room k (A.deeper (envOfC qual scp s.heap.objs.size f cdv)) → sp vs H Q E →
      ∃ t, PSs (cxOf CX0 P w K mg base names qual scp f cdv A outer s H E).nox bd t ∧ t { nx := fun _ H' => Q .non H', rt := Q } (start names vs) H) : FnOk P w K mg base CX0 (k + 1) f fd ps sp :=
  F.ok sc count fun cdv A outer s H vs Q E hr h => let ⟨t, a, b⟩ := inner cdv A outer s H vs Q E hr h; ⟨t, a.nox, b⟩
/-- .. by keywords alone -/
structure Dk (P : Program) (w : World) (K : PySem.W.Frag) (mg : Str → Option Value) (base : Heap) (k : Nat) (x : Str) (ps ks : List Str) (gV : List V → List V → List V) (sp : Sp) : Prop where
  ex : ∃ f fd g, FnOk P w K mg base CX0 k f fd ps sp ∧ mg x = some (.ref f) ∧ PySem.W.keepIn K (.ref f) = true ∧ KBn K fd ps 0 ks g gV
section
variable {X : Cx} {k : Nat} {ps ks : List Str} {sp : Sp} {x : Str} {p pos : Pos} {e : Expr} {es : List Expr} {t tk : TA} {dvs : List V} {gV : List V → List V → List V} {kws : List Keyword}
theorem pe_callKD (D : Dk X.prog X.w X.K X.mg X.base k x ps ks gV sp) (hr : Room k X.A) (hg : Gl X x) (hkw : PK X kws tk)
    (hall : (backToKw pos (keywordEach kws X.env)).all (·.1.isSome) = true := by rfl) (hks : (backToKw pos (keywordEach kws X.env)).filterMap (·.1) = ks := by rfl) (hdb : (x == ("__debug__" : Str)) = false := by decide)
    (hpl : ((backTo pos (starEach [] X.env)).any (·.1) || (backToKw pos (keywordEach kws X.env)).any (·.1.isNone)) = false := by rfl) :
    PE X (.Call (.Name x p) [] kws pos) (tCallN 0 ks.length sp gV E0 tNil tk) := by
  obtain ⟨f, fd, g, F, hm, kp, b⟩ := D.ex
  exact pe_callK0 F hr hg hm kp b pass0 hkw hall hks hdb hpl
end
end Sq
set_option Elab.async false
set_option linter.all false
set_option maxRecDepth 100000
set_option maxHeartbeats 2000000
/-! Own errors whose __init__ says super().__init__(..) and stores its argument as value. -/
set_option Elab.async false
set_option linter.all false
set_option maxRecDepth 100000
set_option maxHeartbeats 2000000
set_option Elab.async false
set_option linter.all false
set_option maxRecDepth 100000
set_option maxHeartbeats 4000000
/-! The same by keyword. -/
set_option Elab.async false
set_option linter.all false
set_option maxRecDepth 100000
set_option maxHeartbeats 2000000
/-! Own errors as values of the layer: made by position and by name, isinstance of them, their value. -/
namespace Sq
open PySem PySem.Spec PyProof.Rows L2
/-- an error of the class at C stands at a, its dict at d; it holds v -/
def ErrAt (H : Hp) (a d C : Addr) (v : V) : Prop := H a = some (exo a C (some d)) ∧ H d = some (exd d [(("value" : Str), v)])
theorem ErrAt.same {H H' : Hp} {a d C : Addr} {v : V} (s : Same H H') (e : ErrAt H a d C v) : ErrAt H' a d C v := ⟨s _ _ e.1, s _ _ e.2⟩
end Sq
set_option Elab.async false
set_option linter.all false
set_option maxRecDepth 100000
set_option maxHeartbeats 2000000
set_option Elab.async false
set_option linter.all false
set_option maxRecDepth 100000
set_option maxHeartbeats 2000000
/-! Own errors raised; a caught one kept behind its suite. -/
namespace Sq
open PySem PySem.Spec PyProof.Rows L2
/-- an error that was raised: its class and its dict are known -/
def exq (a C : Addr) (d : Option Addr) : HO := .ext fun h => ∃ (oe : Obj) (vs : Array Value), h.get? a = some oe ∧ Zc (.ref C) d oe ∧ oe.data = .fields vs
end Sq
set_option Elab.async false
set_option linter.all false
set_option maxRecDepth 100000
set_option maxHeartbeats 4000000
/-! try: .. except X as n: suite, where the caught error is still known behind it. -/
namespace Sq
open PySem PySem.Spec PyProof.Rows L2
/-! ### what is asked of a caught error -/
/-- an error of the class at C was caught at a, its dict at d; it holds v -/
def CaughtAt (H : Hp) (a d C : Addr) (v : V) : Prop := H a = some (exq a C (some d)) ∧ H d = some (exd d [(("value" : Str), v)])
theorem CaughtAt.same {H H' : Hp} {a d C : Addr} {v : V} (s : Same H H') (e : CaughtAt H a d C v) : CaughtAt H' a d C v := ⟨s _ _ e.1, s _ _ e.2⟩
end Sq
set_option Elab.async false
set_option linter.all false
set_option maxRecDepth 100000
set_option maxHeartbeats 2000000
/-! A walk that is left at its first item: for x in g(..): break. -/
set_option Elab.async false
set_option linter.all false
set_option maxRecDepth 100000
set_option maxHeartbeats 2000000
/-! Calls that may raise. -/
namespace Sq
open PySem PySem.Spec PyProof.Rows L2
structure Dx (P : Program) (w : World) (K : PySem.W.Frag) (mg : Str → Option Value) (base : Heap) (k : Nat) (x : Str) (ps : List Str) (sp : Sp) : Prop where
  ex : ∃ f fd, FnOk P w K mg base (L2.CX P w) k f fd ps sp ∧ mg x = some (.ref f) ∧ PySem.W.keepIn K (.ref f) = true ∧ Binds K fd ps []
theorem Dx.mk' {P : Program} {w : World} {K : PySem.W.Frag} {mg : Str → Option Value} {base : Heap} {k : Nat} {x : Str} {st : Stmt} {ps : List Str} {sp : Sp} {f : Addr} {fd : FuncData} (F : Fun K x x st f fd) (G : FnOk P w K mg base (L2.CX P w) k f fd ps sp) (g : mg x = some (.ref f)) (b : Binds K fd ps []) : Dx P w K mg base k x ps sp :=
  ⟨⟨f, fd, G, g, F.kp, b⟩⟩
end Sq
set_option Elab.async false
set_option linter.all false
set_option maxRecDepth 100000
set_option maxHeartbeats 4000000
/-! A def called within an except suite: walks over lists, pairs unpacked, comprehensions, the handled error asked. -/
namespace Sq
open PySem PySem.Spec PyProof.Rows L2 HotX L2H
/-! ### hot contexts -/
/-- wherever the context's invariant holds an error is handled whose context is None -/
def HotW (X : Cx) : Prop := ∀ (pins : List (Addr × Obj)) (σ : L2.St) (H : Hp) (s : Shared), Inv X pins σ H s → ∃ x1, HotAt X.A x1 s.heap
theorem HotC.w {X : Cx} (c : HotC X) : HotW X := fun _ _ _ _ I => c.at I
end Sq
set_option Elab.async false
set_option linter.all false
set_option maxRecDepth 100000
set_option maxHeartbeats 4000000
/-! A def of the law called within an except suite with the caught error. -/
namespace Sq
open PySem PySem.Spec PyProof.Rows L2 HotX L2H
/-- what a def promises there: e the handled error, its class, its dict -/
abbrev SpZ := Addr → Value → Option Addr → Sp
structure FnHZ (P : Program) (w : World) (K : PySem.W.Frag) (mg : Str → Option Value) (base : Heap) (CX : CXT) (k : Nat) (f : Addr) (fd : FuncData) (ps : List Str) (sp : SpZ) : Prop where
  len : ∀ a c d vs H Q E, sp a c d vs H Q E → vs.length = ps.length
  run : ∀ (A : Around) (outer : List Env) (s : Shared) (H : Hp) (args : Args) (us : List Value) (vs : List V) (Q : VK) (E : XK) (p : Addr × Obj) (cls : Value) (d : Option Addr), RoomH k A → Hot1 A p → L2N.Zn cls d p.2 → PinOk outer H s p → Env0 P w K mg base A outer s H → BindsTo s fd args (ps.zip us) → Vals vs us → sp p.1 cls d vs H Q E →
    codeAny (model P w) A (.call (.ref f) args) (CR CX outer P w H s Q E) s
/-- it stands at its name -/
structure Dz (P : Program) (w : World) (K : PySem.W.Frag) (mg : Str → Option Value) (base : Heap) (k : Nat) (x : Str) (ps : List Str) (sp : SpZ) : Prop where
  ex : ∃ f fd, FnHZ P w K mg base CX0 k f fd ps sp ∧ mg x = some (.ref f) ∧ PySem.W.keepIn K (.ref f) = true ∧ Binds K fd ps []
/-! ### what is asked of the handled error -/
end Sq
set_option Elab.async false
set_option linter.all false
set_option maxRecDepth 100000
set_option maxHeartbeats 4000000
/-! Calls that may raise, where the error's context is known to be None. -/
namespace Sq
open PySem PySem.Spec PyProof.Rows L2
structure Dn (P : Program) (w : World) (K : PySem.W.Frag) (mg : Str → Option Value) (base : Heap) (k : Nat) (x : Str) (ps : List Str) (sp : Sp) : Prop where
  ex : ∃ f fd, FnOk P w K mg base (L2N.CX P w) k f fd ps sp ∧ mg x = some (.ref f) ∧ PySem.W.keepIn K (.ref f) = true ∧ Binds K fd ps []
theorem Dn.mk' {P : Program} {w : World} {K : PySem.W.Frag} {mg : Str → Option Value} {base : Heap} {k : Nat} {x : Str} {st : Stmt} {ps : List Str} {sp : Sp} {f : Addr} {fd : FuncData} (F : Fun K x x st f fd) (G : FnOk P w K mg base (L2N.CX P w) k f fd ps sp) (g : mg x = some (.ref f)) (b : Binds K fd ps []) : Dn P w K mg base k x ps sp :=
  ⟨⟨f, fd, G, g, F.kp, b⟩⟩
theorem Dz.mk' {P : Program} {w : World} {K : PySem.W.Frag} {mg : Str → Option Value} {base : Heap} {k : Nat} {x : Str} {st : Stmt} {ps : List Str} {sp : SpZ} {f : Addr} {fd : FuncData} (F : Fun K x x st f fd) (G : FnHZ P w K mg base CX0 k f fd ps sp) (g : mg x = some (.ref f)) (b : Binds K fd ps []) : Dz P w K mg base k x ps sp :=
  ⟨⟨f, fd, G, g, F.kp, b⟩⟩
end Sq
set_option Elab.async false
set_option linter.all false
set_option maxRecDepth 100000
set_option maxHeartbeats 2000000
/-! Data read off the layer's heap. -/
namespace Sq
open PySem PySem.Spec PyProof.Rows L2
theorem same_new {H : Hp} {p : Addr} {o : HO} (h : H p = none) : Same H (upd H p o) := fun b x e => by
  rw [upd_ne (ne_of_none e h)]
  exact e
theorem map_at {ks : List Int} {i : Nat} {x : V} (h : (ks.map V.int)[i]? = some x) : ∃ k, ks[i]? = some k ∧ V.int k = x := by
  rw [List.getElem?_map] at h
  exact Option.map_eq_some_iff.mp h
section
variable {K : PySem.W.Frag}
theorem dp_ints {H : Hp} : ∀ (ds : List Int), DpAll K H (ds.map V.int) (ds.map PyData.int)
  | [] => .nil
  | d :: ds => .cons (.int d) (dp_ints ds)
theorem lays_ints : ∀ (ds : List Int), PyData.canLayAll0 (ds.map PyData.int) = true
  | [] => rfl
  | d :: ds => by
    show (PyData.canLay0 (.int d) && PyData.canLayAll0 (ds.map PyData.int)) = true
    rw [lays_ints ds]
    rfl
theorem deep_ints : ∀ (ds : List Int), PyData.depthAll (ds.map PyData.int) ≤ 1
  | [] => Nat.zero_le _
  | _ :: ds => Nat.max_le.mpr ⟨Nat.zero_le _, deep_ints ds⟩
theorem shaped_ints (ds : List Int) : SeqAt.shaped (.list (ds.map PyData.int)) = true :=
  Bool.and_eq_true_iff.mpr ⟨lays_ints ds, decide_eq_true (Nat.le_trans (Nat.add_le_add_right (deep_ints ds) 1) (by decide))⟩
end
/-! ### data of ints and short lists -/
mutual
def il : PyData → Bool
  | .int _ => true
  | .list xs => decide (xs.length ≤ 1000) && ilAll xs
  | _ => false
def ilAll : List PyData → Bool
  | [] => true
  | x :: xs => il x && ilAll xs
end
mutual
theorem Dp.same {K : PySem.W.Frag} {H H' : Hp} (s : Same H H') : ∀ {d : PyData} {x : V}, Dp K H x d → Dp K H' x d
  | .none, _, .non => .non
  | .bool b, _, .bl _ => .bl b
  | .int i, _, .int _ => .int i
  | .str x, _, .str _ => .str x
  | .list ds, _, .lst h a => .lst (s.seq h) (DpAll.same s a)
  | .tuple ds, _, .tup h a => .tup (by
      rcases h with (h | ⟨o, h⟩) | h
      · exact .inl (.inl (s _ _ h))
      · exact .inl (.inr ⟨o, s _ _ h⟩)
      · exact .inr h) (DpAll.same s a)
theorem DpAll.same {K : PySem.W.Frag} {H H' : Hp} (s : Same H H') : ∀ {ds : List PyData} {xs : List V}, DpAll K H xs ds → DpAll K H' xs ds
  | [], _, .nil => .nil
  | _ :: _, _, .cons h t => .cons (Dp.same s h) (DpAll.same s t)
end
/-! ### the text of a list of ints -/
theorem shaped_il {d : PyData} (h : d.canLay0 = true) (h2 : d.depth ≤ 64) : SeqAt.shaped d = true := Bool.and_eq_true_iff.mpr ⟨h, decide_eq_true h2⟩
end Sq
namespace Sq
open PySem PySem.Spec PyProof.Rows L2
/-! ### repr of any value whose data is known -/
structure Shown (K : PySem.W.Frag) (H : Hp) (x : V) (d : PyData) : Prop where
  dp : Dp K H x d
  sh : d.showable = true
  nd : d.hasDict = false
  dep : d.depth ≤ 40
  fit : d.shown.length ≤ sizeLine
theorem Shown.same {K : PySem.W.Frag} {H H' : Hp} {x : V} {d : PyData} (S : Shown K H x d) (s : Same H H') : Shown K H' x d := ⟨Dp.same s S.dp, S.sh, S.nd, S.dep, S.fit⟩
def rReprV (K : PySem.W.Frag) : List V → Hp → VK → Prop := fun xs H Q => ∃ x d, xs = [x] ∧ Shown K H x d ∧ Q (.str d.shown) H
theorem call_reprV {X : Cx} (hg : X.A.guards = some []) (hu : X.A.units + 64 < cLine) : CallR X (.builtin "repr") (rReprV X.K) := by
  intro pins s σ H xs us Q I r h
  obtain ⟨x, d, rfl, S, q⟩ := h
  obtain ⟨u, rfl, rv⟩ := vals1 r
  obtain ⟨dp, sh, nd, dep, fit⟩ := S
  cases dp with
  | non =>
    obtain rfl : u = Value.none := rv
    exact PySem.P.repr_of_none ⟨.str _, H, I.tok _, ⟨_, rfl⟩, q⟩
  | bl b =>
    obtain rfl : u = Value.bool b := rv
    exact PySem.P.repr_of_bool ⟨.str _, H, I.tok _, ⟨_, rfl⟩, q⟩
  | int i =>
    obtain ⟨t, rfl⟩ := rv
    exact PySem.P.repr_of_int (of_decide_eq_true sh) ⟨.str _, H, I.tok _, ⟨_, rfl⟩, q⟩
  | str y =>
    obtain ⟨t, rfl⟩ := rv
    exact PySem.P.repr_of_str ⟨.str _, H, I.tok _, ⟨_, rfl⟩, q⟩ fit
  | lst hs ha => exact call_reprD hg hu pins s σ H _ _ Q I r ⟨_, _, rfl, .lst hs ha, sh, nd, dep, fit, q⟩
  | tup hs ha => exact call_reprD hg hu pins s σ H _ _ Q I r ⟨_, _, rfl, .tup hs ha, sh, nd, dep, fit, q⟩
theorem fits40 {d : PyData} (h : d.leavesShort 40 = true) (hw : d.weight ≤ 100000) : d.shown.length ≤ sizeLine := by
  have e := PyData.shown_le 40 (by decide) d h
  rw [sizeLine_eq]
  omega
/-! ### powers of greater numbers -/
def CPowW (i j : Int) : Prop := 0 ≤ j ∧ (Builtin.Int.intBits i : Int) * j ≤ 2 ^ 27
theorem op_powW {X : Cx} : OpR X (binaryOp .Pow) (rI CPowW fun i j => .int (i ^ j.toNat)) := opI fun _ _ _ _ _ _ _ hc q => pow_int hc.1 hc.2 q
theorem powW_of {i j : Int} {m : Nat} (h0 : 0 ≤ j) (hi : i.natAbs < 2 ^ m) (hm : 0 < m) (hj : (m : Int) * j ≤ 2 ^ 27) : CPowW i j := by
  refine ⟨h0, Int.le_trans (Int.mul_le_mul_of_nonneg_right ?_ h0) hj⟩
  unfold Builtin.Int.intBits
  split
  · omega
  · have := PySem.Flt.log2_lt_of hm hi
    omega
end Sq
set_option Elab.async false
set_option linter.all false
/-! Squeezing and reaches in plain Lean. -/
namespace Sq
def once (n k : Int) : Int := n / k + n % k
def sq (n : Int) (ks : List Int) : Int := ks.foldl once n
def rw1 (k R : Int) : Int := if k > R + 1 then R else (R + 3 - k) * k - 2
theorem once_nonneg {k n : Int} (hk : 2 ≤ k) (h0 : 0 ≤ n) : 0 ≤ once n k := by
  unfold once
  have h1 := Int.ediv_nonneg h0 (by omega : 0 ≤ k)
  have h2 := Int.emod_nonneg n (by omega : k ≠ 0)
  omega
theorem sq_concat (n : Int) (ks : List Int) (k : Int) : sq n (ks ++ [k]) = once (sq n ks) k := by
  unfold sq
  rw [List.foldl_append]
  rfl
end Sq
set_option Elab.async false
set_option linter.all false
set_option maxRecDepth 100000
set_option maxHeartbeats 2000000
/-! What the laws share: the built-in names, the error classes, low numbers, data that can be shown, keeping heaps. -/
namespace Sq
open PySem PySem.Spec PyProof.Rows L2
structure Bi (mg : Str → Option Value) : Prop where
  n_len : mg "len" = none
  n_min : mg "min" = none
  n_max : mg "max" = none
  n_abs : mg "abs" = none
  n_range : mg "range" = none
  n_isinstance : mg "isinstance" = none
  n_repr : mg "repr" = none
  n_enumerate : mg "enumerate" = none
  n_reversed : mg "reversed" = none
  n_sorted : mg "sorted" = none
  n_bool : mg "bool" = none
  n_int : mg "int" = none
  n_str : mg "str" = none
  n_list : mg "list" = none
  n_tuple : mg "tuple" = none
  n_set : mg "set" = none
  n_sum : mg "sum" = none
  n_zip : mg "zip" = none
  n_all : mg "all" = none
  n_any : mg "any" = none
  n_ValueError : mg "ValueError" = none
  n_divmod : mg "divmod" = none
/-- the first number less than 2 -/
def lowAt : List Int → Option Nat
  | [] => none
  | k :: ks => if k < 2 then some 0 else (lowAt ks).map (· + 1)
theorem lowAt_take : ∀ (ks : List Int) (i : Nat), (∀ k ∈ ks.take i, 2 ≤ k) → (∀ k, ks[i]? = some k → k < 2 → lowAt ks = some i) ∧ (ks.length ≤ i → lowAt ks = none)
  | [], i, _ => ⟨fun k e => by simp at e, fun _ => rfl⟩
  | k :: ks, 0, _ => ⟨fun x e c => by
      cases e
      show (if k < 2 then some 0 else (lowAt ks).map (· + 1)) = some 0
      rw [if_pos c], fun z => by simp at z⟩
  | k :: ks, i + 1, h => by
    have hk := h k (by simp)
    obtain ⟨a, b⟩ := lowAt_take ks i fun x hx => h x (by simp [hx])
    refine ⟨fun x e c => ?_, fun z => ?_⟩
    · show (if k < 2 then some 0 else (lowAt ks).map (· + 1)) = some (i + 1)
      rw [if_neg (by omega), a x e c]
      rfl
    · show (if k < 2 then some 0 else (lowAt ks).map (· + 1)) = none
      rw [if_neg (by omega), b (by simpa using z)]
      rfl
/-! ### data that can be shown -/
structure Gd (n : Nat) (d : PyData) : Prop where
  sh : d.showable = true
  nd : d.hasDict = false
  dep : d.depth ≤ 4
  lf : d.leavesShort 40 = true
  wt : d.weight ≤ n
structure GdA (n : Nat) (ds : List PyData) : Prop where
  sh : PyData.showableAll ds = true
  nd : PyData.hasDictAll ds = false
  dep : PyData.depthAll ds ≤ 3
  lf : PyData.leavesShortAll 40 ds = true
  wt : PyData.weightAll ds ≤ n
theorem gd_int {i : Int} (h : i.natAbs < 10 ^ 31) : Gd 121 (.int i) := by
  have lg : i.natAbs.log2 < 120 := PySem.Flt.log2_lt_of (by decide) (Nat.lt_of_lt_of_le h (by decide))
  refine ⟨decide_eq_true (Nat.lt_trans lg (by decide)), rfl, Nat.zero_le _, ?_, ?_⟩
  · have e := int_text_length_le10 (k := 31) (by decide) h
    refine decide_eq_true ?_
    show (Str.ofString (toString i)).length ≤ 40
    rw [PySem.ofString_length]
    omega
  · show (if i == 0 then 0 else i.natAbs.log2 + 1) ≤ 121
    split <;> omega
theorem GdA.nil : GdA 0 [] := ⟨rfl, rfl, Nat.zero_le _, rfl, Nat.le_refl _⟩
theorem GdA.cons {n m : Nat} {d : PyData} {ds : List PyData} (h : Gd n d) (dp : d.depth ≤ 3) (t : GdA m ds) : GdA (n + 1 + m) (d :: ds) := by
  refine ⟨?_, ?_, Nat.max_le.mpr ⟨dp, t.dep⟩, ?_, ?_⟩
  · show (d.showable && PyData.showableAll ds) = true
    rw [h.sh, t.sh]; rfl
  · show (d.hasDict || PyData.hasDictAll ds) = false
    rw [h.nd, t.nd]; rfl
  · show (d.leavesShort 40 && PyData.leavesShortAll 40 ds) = true
    rw [h.lf, t.lf]; rfl
  · have a := h.wt
    have b := t.wt
    show d.weight + 1 + PyData.weightAll ds ≤ n + 1 + m
    omega
theorem GdA.list {n : Nat} {ds : List PyData} (t : GdA n ds) : Gd n (.list ds) := ⟨t.sh, t.nd, Nat.add_le_add_right t.dep 1, t.lf, t.wt⟩
theorem gda_ints : ∀ (ks : List Int), (∀ k ∈ ks, k.natAbs < 10 ^ 31) → GdA (122 * ks.length) (ks.map PyData.int) ∧ PyData.depthAll (ks.map PyData.int) ≤ 0
  | [], _ => ⟨GdA.nil, Nat.le_refl _⟩
  | k :: ks, h => by
    obtain ⟨a, b⟩ := gda_ints ks fun x hx => h x (List.mem_cons_of_mem _ hx)
    refine ⟨?_, Nat.max_le.mpr ⟨Nat.zero_le _, b⟩⟩
    have c := GdA.cons (gd_int (h k (List.mem_cons_self ..))) (Nat.zero_le _) a
    rw [List.length_cons, Nat.mul_add, Nat.mul_one, Nat.add_comm (122 * ks.length)]
    exact c
theorem Gd.shown {n : Nat} {K : PySem.W.Frag} {H : Hp} {x : V} {d : PyData} (h : Gd n d) (l : n ≤ 100000) (dp : Dp K H x d) : Shown K H x d :=
  ⟨dp, h.sh, h.nd, Nat.le_trans h.dep (by decide), fits40 h.lf (Nat.le_trans h.wt l)⟩
/-! ### the low numbers -/
/-- the heap without one cell -/
def wo (H : Hp) (D : Addr) : Hp := fun b => if b = D then none else H b
theorem wo_upd {H : Hp} {D : Addr} {o : HO} : wo (upd H D o) D = wo H D := by
  funext b
  unfold wo
  by_cases h : b = D
  · rw [if_pos h, if_pos h]
  · rw [if_neg h, if_neg h, upd_ne h]
theorem wo_ne {H : Hp} {D b : Addr} (h : b ≠ D) : wo H D b = H b := by
  unfold wo
  rw [if_neg h]
theorem wo_same {H : Hp} {D : Addr} : Same (wo H D) H := fun b o e => by
  unfold wo at e
  by_cases h : b = D
  · rw [if_pos h] at e; cases e
  · rw [if_neg h] at e; exact e
theorem same_wo {G H : Hp} {D : Addr} (s : Same G H) (h : G D = none) : Same G (wo H D) := fun b o e => by
  rw [wo_ne (fun z => by subst z; rw [h] at e; cases e)]
  exact s b o e
theorem wo_self {H : Hp} {D : Addr} : wo H D D = none := by
  unfold wo
  rw [if_pos rfl]
end Sq
set_option Elab.async false
set_option linter.all false
set_option maxHeartbeats 1000000
/-! Small numbers as texts. -/
namespace Sq
open PySem PySem.Spec PyProof.Rows L2
theorem rep_one {α : Type} (x : α) : ∀ n : Nat, (List.replicate n [x]).flatten = List.replicate n x
  | 0 => rfl
  | n + 1 => by
    rw [List.replicate_succ, List.flatten_cons, rep_one x n, List.replicate_succ]
    rfl
end Sq
set_option Elab.async false
set_option linter.all false
set_option maxRecDepth 100000
set_option maxHeartbeats 1000000
/-! Texts of lists, read: in plain Lean, over the lists of signs. -/
namespace Sq
open PySem PySem.Spec PyProof.Rows L2 TL
open NumText (digitsVal AllDigits)
def digB (l : List Nat) : Bool := l.all fun c => decide (48 ≤ c) && decide (c ≤ 57)
def numOk (l : List Nat) : Bool := digB l && (!l.isEmpty && (decide (l.length ≤ 200) && (decide (l.head? ≠ some 48) && decide (l ≠ [49]))))
def rPart (l : List Nat) : Option (Nat × Nat) :=
  match par [94] [] l with
  | none => if numOk l = true then some (digitsVal l, 1) else none
  | some (a, b) => if (numOk a && numOk b) = true then some (digitsVal a, digitsVal b) else none
def rStep (F : List Int) (l : List Nat) : Option (List Int) :=
  match rPart l with
  | none => none
  | some (n, k) => if F.getLast? = some (n : Int) then none else some (F ++ List.replicate k (n : Int))
def rAll : List Int → List (List Nat) → Option (List Int)
  | F, [] => some F
  | F, l :: r => match rStep F l with
    | none => none
    | some F' => rAll F' r
def rText (l : List Nat) : Option (List Int) := if l = [110, 111, 110, 101] then some [] else rAll [] (spl [44, 32] 0 [] l)
/-- no part stands for more than a thousand numbers -/
def Small (l : List Nat) : Prop := ∀ p ∈ spl [44, 32] 0 [] l, ∀ n k, rPart p = some (n, k) → k ≤ 1000
theorem all_tl (x : Str) (f : Nat → Bool) : x.cps.all f = (tl x).all f := by
  show x.cps.all f = x.cps.toList.all f
  rw [Array.all_toList]
theorem dig_of : ∀ n : _root_.Fin 128, Unicode.isDigit n.val = (decide (48 ≤ n.val) && decide (n.val ≤ 57)) := by decide +kernel
theorem asc_dig (x : Str) : (Txt.isascii x && Txt.isdigit x) = (digB (tl x) && !(tl x).isEmpty) := by
  show (x.cps.all (· < 128) && (decide (x.length > 0) && x.cps.all Unicode.isDigit)) = _
  rw [all_tl, all_tl, len_tl]
  have key : ∀ l : List Nat, (l.all (· < 128) && l.all Unicode.isDigit) = digB l := fun l => by
    induction l with
    | nil => rfl
    | cons c l ih =>
      show ((decide (c < 128) && l.all (· < 128)) && (Unicode.isDigit c && l.all Unicode.isDigit)) = ((decide (48 ≤ c) && decide (c ≤ 57)) && digB l)
      rw [← ih]
      by_cases h : c < 128
      · rw [decide_eq_true h, dig_of ⟨c, h⟩]
        cases l.all (· < 128) <;> cases l.all Unicode.isDigit <;> simp
      · have h2 : ¬ c ≤ 57 := by omega
        rw [decide_eq_false h, decide_eq_false h2]
        simp
  rw [← key]
  cases tl x with
  | nil => rfl
  | cons c l =>
    cases ((c :: l).all (· < 128)) <;> cases ((c :: l).all Unicode.isDigit) <;> simp
theorem digB_all {l : List Nat} : digB l = true ↔ AllDigits l := by
  unfold digB AllDigits
  rw [List.all_eq_true]
  constructor
  · intro h c hc
    have := h c hc
    simp only [Bool.and_eq_true, decide_eq_true_eq] at this
    exact this
  · intro h c hc
    have := h c hc
    simp only [Bool.and_eq_true, decide_eq_true_eq]
    exact this
theorem numOk_iff {l : List Nat} : numOk l = true ↔ AllDigits l ∧ l ≠ [] ∧ l.length ≤ 200 ∧ l.head? ≠ some 48 ∧ l ≠ [49] := by
  unfold numOk
  simp only [Bool.and_eq_true, decide_eq_true_eq, digB_all, Bool.not_eq_true', List.isEmpty_eq_false_iff]
/-- int(..) of such signs -/
theorem int_ok {x : Str} (h : numOk (tl x) = true) : intText? x = some ((digitsVal (tl x) : Nat) : Int) ∧ x.length ≤ 640 := by
  obtain ⟨a, b, c, _⟩ := numOk_iff.mp h
  have l : x.length = (tl x).length := len_tl x
  exact ⟨intText_digits a b (by omega), by omega⟩
end Sq
namespace Sq
open PySem PySem.Spec PyProof.Rows L2 TL
open NumText (digitsVal AllDigits)
theorem signs_hat : tl ("^" : Str) = [94] := by decide +kernel
theorem signs_sep : tl (", " : Str) = [44, 32] := by decide +kernel
theorem split_sep (x : Str) : (Txt.split x ", ").map tl = spl [44, 32] 0 [] (tl x) := by
  have e := split_spl x ", " (by rw [signs_sep]; simp) (kind_ok (by decide +kernel))
  rw [signs_sep] at e
  exact e
/-- a readable part, cut at its first ^ -/
theorem part_cut {y : Str} {n k : Nat} (h : rPart (tl y) = some (n, k)) : ∃ D M N : Str, Txt.partition y "^" = (D, M, N) ∧ numOk (tl D) = true ∧ n = digitsVal (tl D) ∧
    ((M.length = 0 ∧ k = 1) ∨ (M.length = 1 ∧ numOk (tl N) = true ∧ k = digitsVal (tl N))) := by
  have e := partition_par y "^" (by rw [signs_hat]; simp)
  rw [signs_hat] at e
  unfold rPart at h
  cases hp : par [94] [] (tl y) with
  | none =>
    rw [hp] at h e
    have h' : (if numOk (tl y) = true then some (digitsVal (tl y), 1) else none) = some (n, k) := h
    by_cases c : numOk (tl y) = true
    · rw [if_pos c] at h'
      cases h'
      exact ⟨y, Str.empty, Str.empty, e, c, rfl, .inl ⟨rfl, rfl⟩⟩
    · rw [if_neg c] at h'
      cases h'
  | some ab =>
    obtain ⟨a, b⟩ := ab
    rw [hp] at h e
    have h' : (if (numOk a && numOk b) = true then some (digitsVal a, digitsVal b) else none) = some (n, k) := h
    by_cases c : (numOk a && numOk b) = true
    · rw [if_pos c] at h'
      cases h'
      rw [Bool.and_eq_true] at c
      exact ⟨⟨a.toArray⟩, "^", ⟨b.toArray⟩, e, c.1, rfl, .inr ⟨by decide +kernel, c.2, rfl⟩⟩
    · rw [if_neg c] at h'
      cases h'
theorem rStep_some {F F' : List Int} {l : List Nat} (h : rStep F l = some F') : ∃ n k, rPart l = some (n, k) ∧ F.getLast? ≠ some (n : Int) ∧ F' = F ++ List.replicate k (n : Int) := by
  unfold rStep at h
  cases hp : rPart l with
  | none => rw [hp] at h; cases h
  | some nk =>
    obtain ⟨n, k⟩ := nk
    rw [hp] at h
    have h' : (if F.getLast? = some (n : Int) then none else some (F ++ List.replicate k (n : Int))) = some F' := h
    by_cases c : F.getLast? = some (n : Int)
    · rw [if_pos c] at h'; cases h'
    · rw [if_neg c] at h'
      cases h'
      exact ⟨n, k, rfl, c, rfl⟩
theorem rAll_cons {F ks : List Int} {l : List Nat} {r : List (List Nat)} (h : rAll F (l :: r) = some ks) : ∃ F', rStep F l = some F' ∧ rAll F' r = some ks := by
  have h' : (match rStep F l with | none => none | some F' => rAll F' r) = some ks := h
  cases hp : rStep F l with
  | none => rw [hp] at h'; cases h'
  | some F' => rw [hp] at h'; exact ⟨F', rfl, h'⟩
theorem spl_len (S : List Nat) : ∀ (k : Nat) (acc l : List Nat), (spl S k acc l).length ≤ l.length + 1
  | k, acc, [] => by rw [spl_nil]; simp
  | 0, acc, c :: r => by
    show (if pre S (c :: r) = true then acc :: spl S (S.length - 1) [] r else spl S 0 (acc ++ [c]) r).length ≤ _
    split
    · have := spl_len S (S.length - 1) [] r
      simp only [List.length_cons]
      omega
    · have := spl_len S 0 (acc ++ [c]) r
      simp only [List.length_cons]
      omega
  | k + 1, acc, c :: r => by
    show (spl S k acc r).length ≤ _
    have := spl_len S k acc r
    simp only [List.length_cons]
    omega
theorem str_at {ys : List Str} {i : Nat} {v : V} (h : (ys.map V.str)[i]? = some v) : ∃ y, ys[i]? = some y ∧ v = .str y := by
  rw [List.getElem?_map] at h
  cases e : ys[i]? with
  | none => rw [e] at h; cases h
  | some y => rw [e] at h; exact ⟨y, rfl, (Option.some.inj h).symm⟩
theorem spl_mem (S : List Nat) : ∀ (k : Nat) (acc l : List Nat), ∀ q ∈ spl S k acc l, q.length ≤ acc.length + l.length
  | k, acc, [] => by
    rw [spl_nil]
    intro q hq
    rw [List.mem_singleton.mp hq]
    exact Nat.le_add_right _ _
  | 0, acc, c :: r => by
    show ∀ q ∈ (if pre S (c :: r) = true then acc :: spl S (S.length - 1) [] r else spl S 0 (acc ++ [c]) r), _
    split
    · intro q hq
      rcases List.mem_cons.mp hq with z | z
      · rw [z]
        exact Nat.le_add_right _ _
      · have := spl_mem S (S.length - 1) [] r q z
        simp only [List.length_nil, List.length_cons] at this ⊢
        omega
    · intro q hq
      have := spl_mem S 0 (acc ++ [c]) r q hq
      simp only [List.length_append, List.length_cons, List.length_nil] at this ⊢
      omega
  | k + 1, acc, c :: r => by
    intro q hq
    have := spl_mem S k acc r q hq
    simp only [List.length_cons]
    omega
theorem atI_lst {α : Type} (xs : List α) (v : α) (h : xs.getLast? = some v) : atI xs (-1) = some v := by
  rcases List.eq_nil_or_concat xs with e | ⟨ys, z, e⟩
  · rw [e] at h
    cases h
  · rw [e, List.concat_eq_append] at h ⊢
    rw [List.getLast?_concat] at h
    cases h
    exact L2.atI_last ys _
theorem z0L : 0 ≤ sizeLine := Nat.zero_le _
end Sq
set_option Elab.async false
set_option linter.all false
set_option maxRecDepth 100000
set_option maxHeartbeats 1000000
/-! What is written is read. -/
namespace Sq
open PySem PySem.Spec PyProof.Rows L2 TL
open NumText (digitsVal AllDigits)
def outL (ps : List (Nat × Nat)) : List Int := (ps.map fun p => List.replicate p.2 (p.1 : Int)).flatten
/-- neighbours differ -/
def Alt : Option Int → List (Nat × Nat) → Prop
  | _, [] => True
  | o, p :: r => o ≠ some (p.1 : Int) ∧ Alt (some (p.1 : Int)) r
theorem last_rep {F : List Int} {k : Nat} {x : Int} (h : 1 ≤ k) : (F ++ List.replicate k x).getLast? = some x := by
  obtain ⟨m, rfl⟩ : ∃ m, k = m + 1 := ⟨k - 1, by omega⟩
  rw [List.replicate_succ', ← List.append_assoc, List.getLast?_concat]
end Sq
set_option Elab.async false
set_option linter.all false
set_option maxRecDepth 100000
set_option maxHeartbeats 1000000
/-! Texts of lists, written: the groups of equal neighbours, the digits of great numbers. -/
namespace Sq
open PySem PySem.Spec PyProof.Rows L2 TL
open NumText (digitsVal AllDigits)
/-- the number of the last group -/
def lastN (o : Option Int) (ps : List (Nat × Nat)) : Option Int := match ps.getLast? with
  | some p => some (p.1 : Int)
  | none => o
theorem lastN_snoc (o : Option Int) (ps : List (Nat × Nat)) (p : Nat × Nat) : lastN o (ps ++ [p]) = some (p.1 : Int) := by
  unfold lastN
  rw [List.getLast?_concat]
theorem lastN_cons (o : Option Int) (p : Nat × Nat) (ps : List (Nat × Nat)) : lastN o (p :: ps) = lastN (some (p.1 : Int)) ps := by
  unfold lastN
  cases ps with
  | nil => rfl
  | cons q r => rw [List.getLast?_cons_cons]; cases h : (q :: r).getLast? with
    | some z => rfl
    | none => simp at h
theorem alt_snoc : ∀ (ps : List (Nat × Nat)) (o : Option Int) (p : Nat × Nat), Alt o (ps ++ [p]) ↔ Alt o ps ∧ lastN o ps ≠ some (p.1 : Int)
  | [], o, p => ⟨fun h => ⟨trivial, h.1⟩, fun h => ⟨h.2, trivial⟩⟩
  | q :: r, o, p => by
    rw [lastN_cons]
    show (o ≠ some (q.1 : Int) ∧ Alt (some (q.1 : Int)) (r ++ [p])) ↔ (o ≠ some (q.1 : Int) ∧ Alt (some (q.1 : Int)) r) ∧ _
    rw [alt_snoc r]
    exact ⟨fun h => ⟨⟨h.1, h.2.1⟩, h.2.2⟩, fun h => ⟨h.1.1, h.1.2, h.2⟩⟩
/-- ks by its groups of equal neighbours -/
structure Grp (ks : List Int) (ps : List (Nat × Nat)) : Prop where
  alt : Alt none ps
  one : ∀ p ∈ ps, 1 ≤ p.2
  out : outL ps = ks
theorem outL_cons (p : Nat × Nat) (ps : List (Nat × Nat)) : outL (p :: ps) = List.replicate p.2 (p.1 : Int) ++ outL ps := rfl
theorem outL_snoc (ps : List (Nat × Nat)) (p : Nat × Nat) : outL (ps ++ [p]) = outL ps ++ List.replicate p.2 (p.1 : Int) := by
  unfold outL
  rw [List.map_append, List.flatten_append]
  simp
theorem Grp.nil : Grp [] [] := ⟨trivial, fun p h => (nomatch h), rfl⟩
theorem outL_head {p : Nat × Nat} {ps : List (Nat × Nat)} (h : 1 ≤ p.2) : ∃ r, outL (p :: ps) = (p.1 : Int) :: r := by
  rw [outL_cons]
  obtain ⟨m, e⟩ : ∃ m, p.2 = m + 1 := ⟨p.2 - 1, by omega⟩
  rw [e, List.replicate_succ]
  exact ⟨_, rfl⟩
theorem outL_eq_nil {ps : List (Nat × Nat)} (h : ∀ p ∈ ps, 1 ≤ p.2) (e : outL ps = []) : ps = [] := by
  cases ps with
  | nil => rfl
  | cons p r =>
    obtain ⟨s, z⟩ := outL_head (ps := r) (h p List.mem_cons_self)
    rw [z] at e
    cases e
theorem rep_cut {x : Int} {A B : List Int} : ∀ (m n : Nat), m ≤ n → List.replicate m x ++ A = List.replicate n x ++ B → A = List.replicate (n - m) x ++ B
  | 0, n, _, h => h
  | m + 1, 0, l, _ => absurd l (by omega)
  | m + 1, n + 1, l, h => by
    rw [List.replicate_succ, List.replicate_succ, List.cons_append, List.cons_append] at h
    rw [rep_cut m n (by omega) (List.cons.inj h).2, Nat.add_sub_add_right]
theorem alt_ne_head {k : Nat} {ps : List (Nat × Nat)} {B : List Int} {d : Nat} (a : Alt (some (k : Int)) ps) (o : ∀ p ∈ ps, 1 ≤ p.2) (hd : 0 < d) : outL ps ≠ List.replicate d (k : Int) ++ B := fun e => by
  obtain ⟨m, rfl⟩ : ∃ m, d = m + 1 := ⟨d - 1, by omega⟩
  rw [List.replicate_succ] at e
  cases ps with
  | nil => cases e
  | cons p r =>
    obtain ⟨s, z⟩ := outL_head (ps := r) (o p List.mem_cons_self)
    rw [z] at e
    have h := (List.cons.inj e).1
    exact a.1 (by rw [h])
theorem grp_one : ∀ (ps qs : List (Nat × Nat)) (o o' : Option Int), Alt o ps → Alt o' qs → (∀ p ∈ ps, 1 ≤ p.2) → (∀ p ∈ qs, 1 ≤ p.2) → outL ps = outL qs → ps = qs
  | [], qs, _, _, _, _, _, h2, e => (outL_eq_nil h2 e.symm).symm
  | p :: r, [], _, _, _, _, h1, _, e => outL_eq_nil h1 e
  | (k, m) :: r, (l, n) :: s, o, o', a1, a2, h1, h2, e => by
    have m1 : 1 ≤ m := h1 (k, m) List.mem_cons_self
    have n1 : 1 ≤ n := h2 (l, n) List.mem_cons_self
    have kl : (k : Int) = (l : Int) := by
      obtain ⟨x, e1⟩ := outL_head (p := (k, m)) (ps := r) m1
      obtain ⟨y, e2⟩ := outL_head (p := (l, n)) (ps := s) n1
      rw [e1, e2] at e
      exact (List.cons.inj e).1
    have kl' : k = l := Int.ofNat.inj kl
    subst kl'
    have e' : List.replicate m (k : Int) ++ outL r = List.replicate n (k : Int) ++ outL s := e
    have mn : m = n := by
      by_cases c : m < n
      · exact absurd (rep_cut m n (by omega) e') (alt_ne_head a1.2 (fun p hp => h1 p (List.mem_cons_of_mem _ hp)) (by omega))
      · by_cases c2 : n < m
        · exact absurd (rep_cut n m (by omega) e'.symm) (alt_ne_head a2.2 (fun p hp => h2 p (List.mem_cons_of_mem _ hp)) (by omega))
        · omega
    subst mn
    have e3 := rep_cut m m (Nat.le_refl _) e'
    rw [Nat.sub_self] at e3
    rw [grp_one r s _ _ a1.2 a2.2 (fun p hp => h1 p (List.mem_cons_of_mem _ hp)) (fun p hp => h2 p (List.mem_cons_of_mem _ hp)) e3]
theorem Grp.uniq {ks : List Int} {ps qs : List (Nat × Nat)} (a : Grp ks ps) (b : Grp ks qs) : ps = qs := grp_one ps qs none none a.alt b.alt a.one b.one (a.out.trans b.out.symm)
theorem Grp.mem {ks : List Int} {ps : List (Nat × Nat)} (g : Grp ks ps) : ∀ p ∈ ps, (p.1 : Int) ∈ ks := fun p hp => by
  rw [← g.out]
  unfold outL
  have h1 := g.one p hp
  exact List.mem_flatten.mpr ⟨_, List.mem_map.mpr ⟨p, hp, rfl⟩, List.mem_replicate.mpr ⟨by omega, rfl⟩⟩
theorem outL_len : ∀ (ps : List (Nat × Nat)), (outL ps).length = (ps.map (·.2)).sum
  | [] => rfl
  | p :: r => by
    rw [outL_cons, List.length_append, List.length_replicate, outL_len r]
    rfl
theorem sum_ge {ps : List (Nat × Nat)} : (∀ p ∈ ps, 1 ≤ p.2) → ps.length ≤ (ps.map (·.2)).sum ∧ ∀ p ∈ ps, p.2 ≤ (ps.map (·.2)).sum := by
  induction ps with
  | nil => exact fun _ => ⟨Nat.le_refl _, fun p hp => (nomatch hp)⟩
  | cons q r ih =>
    intro h
    obtain ⟨a, b⟩ := ih fun p hp => h p (List.mem_cons_of_mem _ hp)
    have h1 := h q List.mem_cons_self
    refine ⟨?_, fun p hp => ?_⟩
    · simp only [List.length_cons, List.map_cons, List.sum_cons]
      omega
    · simp only [List.map_cons, List.sum_cons]
      rcases List.mem_cons.mp hp with z | z
      · rw [z]; omega
      · have := b p z; omega
theorem Grp.len {ks : List Int} {ps : List (Nat × Nat)} (g : Grp ks ps) : ps.length ≤ ks.length ∧ ∀ p ∈ ps, p.2 ≤ ks.length := by
  rw [← g.out, outL_len]
  exact sum_ge g.one
/-! ### great numbers, piece by piece -/
end Sq
namespace Sq
open PySem PySem.Spec PyProof.Rows L2 TL
/-- one group's way of writing: the state of a writer that has closed the groups C and stands t signs in the next -/
structure OwnS (ks : List Int) (i : Nat) (C : List (Nat × Nat)) (t : Nat) : Prop where
  alt : Alt none C
  one : ∀ p ∈ C, 1 ≤ p.2
  nx : ∀ n, ks[i]? = some n → ks.take i = outL C ++ List.replicate t n ∧ lastN none C ≠ some n
  fin : ks[i]? = none → t = 0 ∧ outL C = ks
theorem OwnS.start (ks : List Int) : OwnS ks 0 [] 0 := ⟨trivial, fun p h => (nomatch h), fun n _ => ⟨rfl, fun z => (nomatch z)⟩, fun h => ⟨rfl, by
  cases ks with
  | nil => rfl
  | cons k r => cases h⟩⟩
theorem OwnS.same {ks : List Int} {i : Nat} {C : List (Nat × Nat)} {t : Nat} {n : Int} (h : OwnS ks i C t) (e : ks[i]? = some n) (e2 : ks[i + 1]? = some n) : OwnS ks (i + 1) C (t + 1) := by
  obtain ⟨a, b⟩ := h.nx n e
  refine ⟨h.alt, h.one, fun m hm => ?_, fun z => by rw [e2] at z; cases z⟩
  rw [e2] at hm
  cases hm
  refine ⟨?_, b⟩
  rw [List.take_add_one, e, a, List.replicate_succ', List.append_assoc]
  rfl
end Sq
set_option Elab.async false
set_option linter.all false
set_option maxRecDepth 100000
set_option maxHeartbeats 1000000
/-! What is read is written. -/
namespace Sq
open PySem PySem.Spec PyProof.Rows L2 TL
open NumText (digitsVal AllDigits)
theorem last_of {F : List Int} {ps : List (Nat × Nat)} (g : Grp F ps) : F.getLast? = lastN none ps := by
  rcases List.eq_nil_or_concat ps with e | ⟨qs, p, e⟩
  · have := g.out
    rw [e] at this ⊢
    rw [← this]
    rfl
  · rw [List.concat_eq_append] at e
    have o := g.out
    have h1 := g.one p (by rw [e]; exact List.mem_append_right _ (List.mem_singleton.mpr rfl))
    rw [e] at o ⊢
    rw [lastN_snoc, ← o, outL_snoc, last_rep h1]
theorem Grp.block {F : List Int} {ps : List (Nat × Nat)} {n k : Nat} (g : Grp F ps) (h : F.getLast? ≠ some (n : Int)) (hk : 1 ≤ k) : Grp (F ++ List.replicate k (n : Int)) (ps ++ [(n, k)]) := by
  rw [last_of g] at h
  refine ⟨(alt_snoc _ _ _).mpr ⟨g.alt, h⟩, fun p hp => ?_, ?_⟩
  · rcases List.mem_append.mp hp with z | z
    · exact g.one p z
    · rw [List.mem_singleton.mp z]
      exact hk
  · rw [outL_snoc, g.out]
/-! ### few digits behind each ^ -/
def isDg (c : Nat) : Bool := decide (48 ≤ c) && decide (c ≤ 57)
/-- of the two signs that stand second and third behind a ^ none is a digit -/
def Gap (l : List Nat) : Prop := ∀ i, l[i]? = some 94 → (∀ b, l[i + 2]? = some b → isDg b = false) ∧ (∀ c, l[i + 3]? = some c → isDg c = false)
theorem Gap.cons {c : Nat} {l : List Nat} (h : Gap l) (hc : c ≠ 94) : Gap (c :: l) := fun i e => by
  cases i with
  | zero => exact absurd (Option.some.inj e) hc
  | succ i => exact h i e
theorem Gap.nil : Gap [] := fun i e => (nomatch e)
end Sq
set_option Elab.async false
set_option linter.all false
set_option maxHeartbeats 1000000
/-! Two lists part at the run between their greatest origins of 1. -/
set_option Elab.async false
set_option linter.all false
set_option maxHeartbeats 1000000
/-! What parting_run returns. -/
set_option Elab.async false
set_option linter.all false
set_option maxHeartbeats 1000000
/-! A hidden list, found by questions. -/
set_option Elab.async false
set_option linter.all false
set_option maxRecDepth 100000
set_option maxHeartbeats 1000000
/-! What is asked of the handled error in its suite, whatever its class. -/
set_option Elab.async false
set_option linter.all false
set_option maxRecDepth 100000
set_option maxHeartbeats 1000000
/-! A def that may raise, called where it doesn't; keywords of such a def. -/
namespace Sq
open PySem PySem.Spec PyProof.Rows L2
theorem kbn_mk {K : PySem.W.Frag} {x qual : Str} {st : Stmt} {f : Addr} {fd : FuncData} {ps : List Str} (F : Fun K x qual st f fd) (ks : List Str) (g : List Value → List Value → List Value) (gV : List V → List V → List V)
    (rel : ∀ {vs : List V} {us : List Value} {zs : List V} {ws : List Value}, Vals vs us → Vals zs ws → Vals (gV vs zs) (g us ws))
    (h : ∀ (kV doc pm : Value) (an : Option Addr) (cdv ct : Value) (ws : List Value), ws.length = ks.length → bindArgs (PySem.W.fnOf x qual (defArgs st) (defBody st) (defScope st) .none kV doc pm an cdv ct) ⟨[], ks.zip ws⟩ = pure (ps.zip (g [] ws))) : KBn K fd ps 0 ks g gV := by
  obtain ⟨oc, od, kV, doc, pm, an, cdv, ct, osl, rfl, lk, hcd⟩ := F.ex
  refine ⟨fun s us ws X l1 l2 => ?_, rel⟩
  obtain rfl : us = [] := List.length_eq_zero_iff.mp l1
  exact .of_eq (h kV doc pm an cdv ct ws l2)
end Sq
set_option Elab.async false
set_option linter.all false
/-! A statement told apart from what follows. -/
namespace Sq
open PySem PySem.Spec PyProof.Rows L2
theorem tellNx {t u : TS} {D : Ends} {r : VK} {b c : L2.St → Hp → Prop} {σ : L2.St} {H : Hp} (T : L2.St → Hp → Prop) (h : ∀ N : L2.St → Hp → Prop, (∀ σ2 H2, T σ2 H2 → N σ2 H2) → t { D with nx := N } σ H) (hT : ∀ σ2 H2, T σ2 H2 → u D σ2 H2) : Ends.nx { nx := tSeq t u D, rt := r, bk := b, ct := c } σ H := h (u D) hT
end Sq
namespace Sq
open PySem PySem.Spec PyProof.Rows L2
theorem cut_take (xs : List V) (n : Nat) (h : n ≤ xs.length) : cutV xs none (some (n : Int)) = xs.take n := by
  unfold cutV
  rw [HT.sIx_nat, HT.sIx_none, List.drop_zero, Nat.min_eq_left h, Nat.sub_zero]
end Sq
set_option Elab.async false
set_option linter.all false
set_option maxHeartbeats 1000000
/-! Lists of replacements in the heap; slices of them. -/
namespace Sq
open PySem PySem.Spec PyProof.Rows L2
/-- replacements, not too great -/
def Rpl (ks : List Int) : Prop := ∀ k ∈ ks, 2 ≤ k ∧ k < 1073741824
theorem Rpl.low {ks : List Int} (h : Rpl ks) : lowAt ks = none := (lowAt_take ks ks.length (by rw [List.take_length]; exact fun k hk => (h k hk).1)).2 (Nat.le_refl _)
theorem Rpl.two {ks : List Int} (h : Rpl ks) : ∀ k ∈ ks, 2 ≤ k := fun k hk => (h k hk).1
/-- a list of at most n replacements -/
def RL (H : Hp) (p : Addr) (n : Nat) : Prop := ∃ ks : List Int, H p = some (.lst (ks.map V.int)) ∧ ks.length ≤ n ∧ Rpl ks
theorem RL.same {H H' : Hp} {p : Addr} {n : Nat} (h : RL H p n) (s : Same H H') : RL H' p n := by
  obtain ⟨ks, g, l, r⟩ := h
  exact ⟨ks, s _ _ g, l, r⟩
theorem noPart {σ : L2.St} {H : Hp} {Q : Option Int → Hp → Prop} (h : Q none H) : tNoPart σ H Q := h
end Sq
set_option Elab.async false
set_option linter.all false
set_option maxRecDepth 100000
set_option maxHeartbeats 2000000
/-! A def of the law that asks for a repr: run where no repr is under way. -/
namespace Sq
open PySem PySem.Spec PyProof.Rows L2
structure FnG (P : Program) (w : World) (K : PySem.W.Frag) (mg : Str → Option Value) (base : Heap) (k : Nat) (f : Addr) (fd : FuncData) (ps : List Str) (sp : Sp) : Prop where
  count : ∀ vs H Q E, sp vs H Q E → vs.length = ps.length
  go : ∀ (A : Around) (outer : List Env) (s : Shared) (H : Hp) (ag : Args) (us : List Value) (vs : List V) (Q : VK) (E : XK), Room k A → A.guards = some [] → Env0 P w K mg base A outer s H →
    BindsTo s fd ag (ps.zip us) → Vals vs us → sp vs H Q E → codeAny (model P w) A (.call (.ref f) ag) (CR CX0 outer P w H s Q E) s
theorem okG {P : Program} {w : World} {K : PySem.W.Frag} {mg : Str → Option Value} {base : Heap} {x qual : Str} {st : Stmt} {f : Addr} {fd : FuncData} {N ps : List Str} {k : Nat} {sp : Sp}
    (F : Fun K x qual st f fd) (S : FnScope N ps (defScope st)) (count : ∀ vs H Q E, sp vs H Q E → vs.length = ps.length)
    (inner : ∀ (cdv : Value) (A : Around) (outer : List Env) (s : Shared) (H : Hp) (vs : List V) (Q : VK) (E : XK), Room k (A.deeper (envOfC qual (defScope st) s.heap.objs.size f cdv)) → A.guards = some [] → sp vs H Q E →
      ∃ t, PSs (cxOf CX0 P w K mg base N qual (defScope st) f cdv A outer s H E).nox (defBody st) t ∧ t { nx := fun _ H' => Q .non H', rt := Q } (start N vs) H) : FnG P w K mg base (k + 1) f fd ps sp := by
  refine ⟨count, fun A outer s H ag us vs Q E room quiet entry bound rel wish => ?_⟩
  obtain ⟨oc, od, kV, doc, pm, an, cdv, ct, osl, rfl, lk, hcd⟩ := F.ex
  refine fnAt lk hcd S count (fun outer' s' H' vs' Q' E' room' wish' => ?_) room entry bound rel wish
  obtain ⟨t, h, q⟩ := inner cdv A outer' s' H' vs' Q' E' room' quiet wish'
  exact ⟨t, h.nox, q⟩
structure Dgr (P : Program) (w : World) (K : PySem.W.Frag) (mg : Str → Option Value) (base : Heap) (k : Nat) (x : Str) (ps : List Str) (sp : Sp) : Prop where
  ex : ∃ f fd, FnG P w K mg base k f fd ps sp ∧ mg x = some (.ref f) ∧ PySem.W.keepIn K (.ref f) = true ∧ Binds K fd ps []
theorem Dgr.mk' {P : Program} {w : World} {K : PySem.W.Frag} {mg : Str → Option Value} {base : Heap} {k : Nat} {x : Str} {st : Stmt} {ps : List Str} {sp : Sp} {f : Addr} {fd : FuncData} (F : Fun K x x st f fd) (G : FnG P w K mg base k f fd ps sp) (g : mg x = some (.ref f)) (b : Binds K fd ps []) : Dgr P w K mg base k x ps sp :=
  ⟨⟨f, fd, G, g, F.kp, b⟩⟩
section
variable {X : Cx} {k : Nat} {ps : List Str} {sp : Sp} {x : Str} {p pos : Pos} {e : Expr} {es : List Expr} {t : TA}
theorem pe_callG (D : Dgr X.prog X.w X.K X.mg X.base k x ps sp) (room : Room k X.A) (quiet : X.A.guards = some []) (hg : Gl X x) (ha : PA X (e :: es) t) (hdb : (x == ("__debug__" : Str)) = false := by decide)
    (first : starEach (e :: es) X.env = (false, eval e X.env) :: starEach es X.env := by rfl)
    (nostar : (backTo pos (starEach es X.env)).any (·.1) = false := by rfl) :
    PE X (.Call (.Name x p) (e :: es) [] pos) (tCall sp [] E0 t) := by
  obtain ⟨f, fd, G, g, kp, b⟩ := D.ex
  constructor
  intro pins s σ H Q I h
  apply wpAny_Call_Name_kw
  apply ld_glob I hg g _ hdb
  apply PySem.W.callWith_K (h₀ := X.base) I.ok.mod.kin kp _ first nostar
  refine thn (ha.run pos pins s σ H _ I h) fun us s1 got => ?_
  obtain ⟨vs, H1, I1, r, q⟩ := got
  refine ⟨I1.kIn, ?_⟩
  rw [List.append_nil] at q
  have hl : (us ++ []).length = ps.length := by
    rw [List.append_nil, ← r.length]
    exact G.count _ _ _ _ q
  have bb := b s1 us I1.kIn hl
  rw [List.append_nil] at bb
  apply wpAny_call
  refine codeAny_mono (G.go X.A X.stack s1 H1 ⟨us, []⟩ us vs Q E0 room quiet I1.env0 bb r q) fun out s' hq => ?_
  cases out with
  | ok fl =>
    cases fl with
    | ret u => exact I1.after hq
    | next => exact hq.elim
    | brk => exact hq.elim
    | cont => exact hq.elim
  | error u => exact pass0 pins σ H1 s1 u s' I1 hq
end
end Sq
set_option Elab.async false
set_option linter.all false
/-! The best replacements, in plain Lean. -/
namespace Sq
def low (R : Int) : Int := (R + 3) / 2
def grow (R : Int) : Int := rw1 (low R) R
def up : Nat → Int → Int
  | 0, v => v
  | n + 1, v => grow (up n v)
end Sq
set_option Elab.async false
set_option linter.all false
/-! One of each choice, by its place. -/
namespace Sq
def Full (cs : List (List Int)) : Prop := ∀ c ∈ cs, 0 < c.length
theorem Full.tl {c : List Int} {cs : List (List Int)} (h : Full (c :: cs)) : Full cs := fun x hx => h x (List.mem_cons_of_mem _ hx)
theorem Full.hd {c : List Int} {cs : List (List Int)} (h : Full (c :: cs)) : 0 < c.length := h c (List.mem_cons_self ..)
end Sq
set_option Elab.async false
set_option linter.all false
set_option maxRecDepth 100000
set_option maxHeartbeats 1000000
/-! `for` in a generator's body, with yields in its suite. -/
namespace PySem
open Sem (wp)
section
variable {M : Model} {A : Around} {R : GenEnd} {Y : Protocol} {n : Nat} {s₀ : Shared} {c : Code} {fs : List Frame} {s : Shared} {env : Env}
  {K : Flow → Sem Fin} {H : Value → Sem Fin} {gd : Bool → Bool} {lv : List Value → List Value}
theorem segFor {target iter : Expr} {body orelse : List Stmt} {pos : Pos}
    (h : wpAny M (A.over c fs) (eval iter env) (fun x s₁ => wpAny M (A.over c fs) (pyIter x) (fun it s₂ =>
        ∀ p, Seg M A R Y n s₀ (.forLoop target it body orelse env) (M.den (.forLoop target it body orelse env))
      (.ret (fun r => ((match r with | .ok f => (.pure f : Sem Flow) | .error e => .raise e).onRaise fun (x : Value) => do
        if (← field x 1) == Value.none then unsupported "frame.own-activation:exception-without-traceback"
        setFlight x env.frame).wrap K H gd lv) none (gd false) (lv []) c p [] :: fs) s₂) (fun x s' => Seg M A R Y n s₀ c (H x) fs s') s₁)
      (fun x s' => Seg M A R Y n s₀ c (H x) fs s') s)
    (hs : ∀ x, foldedSetIterable iter env x = pure x := by intro _; rfl) :
    Seg M A R Y n s₀ c ((exec (.For target iter body orelse pos) env).wrap K H gd lv) fs s := by
  rw [exec_For]
  refine seg_bind_wrap (wpAny_standAt ?_)
  refine seg_bind_wrap (wpAny_mono h (fun x s₁ h₁ => ?_) fun _ _ h' => h')
  refine seg_bind_wrap (wpAny_of_eq (hs x) ?_)
  refine seg_bind_wrap (wpAny_standAt ?_)
  refine seg_bind_wrap (wpAny_holding (wpAny_mono h₁ (fun it s₂ h₂ => ?_) fun _ _ h' => h'))
  exact seg_call h₂
end
section
variable {prog : Program} {w : World} {A : Around} {R : GenEnd} {Y : Protocol} {n : Nat} {s₀ : Shared} {fs : List Frame} {s : Shared} {env : Env}
theorem segForLoop {target : Expr} {it : Value} {body orelse : List Stmt}
    (h : wpAny (model prog w) (A.over (.forLoop target it body orelse env) fs) (pyNext it) (fun r s₁ => match r with
        | none => Seg (model prog w) A R Y n s₀ (.forLoop target it body orelse env) (.pure (.again (.block orelse env))) fs s₁
        | some v => wpAny (model prog w) (A.over (.forLoop target it body orelse env) fs) (letOwnedTupleGo target it v) (fun _ s₂ =>
            wpAny (model prog w) (A.over (.forLoop target it body orelse env) fs) (assign target env v) (fun _ s₃ =>
              Seg (model prog w) A R Y n s₀ (.forLoop target it body orelse env) ((execs body env).wrap (fun f => match f with
            | .next | .cont => .pure (.again (.forLoop target it body orelse env))
            | .brk => .pure (.done .next)
            | .ret v => .pure (.done (.ret v))) (fun e => (do noteFrame e env; theTreesLotGoes e : Sem Unit).wrap (fun _ => .raise e) .raise id id) id id) fs s₃)
              (fun x s' => Seg (model prog w) A R Y n s₀ (.forLoop target it body orelse env) ((do noteFrame x env; theTreesLotGoes x : Sem Unit).wrap (fun _ => .raise x) .raise id id) fs s') s₂)
            (fun x s' => Seg (model prog w) A R Y n s₀ (.forLoop target it body orelse env) ((do noteFrame x env; theTreesLotGoes x : Sem Unit).wrap (fun _ => .raise x) .raise id id) fs s') s₁)
      (fun x s' => Seg (model prog w) A R Y n s₀ (.forLoop target it body orelse env) ((do noteFrame x env; theTreesLotGoes x : Sem Unit).wrap (fun _ => .raise x) .raise id id) fs s') s) :
    Seg (model prog w) A R Y n s₀ (.forLoop target it body orelse env) ((model prog w).den (.forLoop target it body orelse env)) fs s := by
  show Seg _ A R Y n s₀ _ ((forTurn target it body orelse env).onRaise (fun x => do noteFrame x env; theTreesLotGoes x)) fs s
  unfold forTurn
  rw [Sem.onRaise_eq_wrap]
  have he : ∀ (x : Value) (s' : Shared), Seg (model prog w) A R Y n s₀ (.forLoop target it body orelse env) ((do noteFrame x env; theTreesLotGoes x : Sem Unit).wrap (fun _ => .raise x) .raise id id) fs s' →
      Seg (model prog w) A R Y n s₀ (.forLoop target it body orelse env) ((do noteFrame x env; theTreesLotGoes x : Sem Unit).bind fun _ => .raise x) fs s' := fun x s' hx => by
    rw [Sem.bind_eq_wrap]; exact hx
  refine seg_bind_wrap (wpAny_standAt ?_)
  refine seg_bind_wrap (wpAny_onRaise (wpAny_mono h (fun r s₁ h₁ => ?_) fun x s' hx => wpAny_standAt (he x s' hx)))
  cases r with
  | none => exact h₁
  | some v =>
    refine seg_bind_wrap (wpAny_mono h₁ (fun _ s₂ h₂ => ?_) fun x s' hx => he x s' hx)
    refine seg_bind_wrap (wpAny_mono h₂ (fun _ s₃ h₃ => ?_) fun x s' hx => he x s' hx)
    rw [Sem.bind_eq_wrap', Sem.wrap_wrap]
    rw [Sem.wrap_congr (execs body env) _ _ (K' := fun f => match f with
            | .next | .cont => .pure (.again (.forLoop target it body orelse env))
            | .brk => .pure (.done .next)
            | .ret v => .pure (.done (.ret v))) (H' := (fun e => (do noteFrame e env; theTreesLotGoes e : Sem Unit).wrap (fun _ => .raise e) .raise id id))
        (fun f => by cases f <;> rfl)
        (fun e => by first | exact Sem.bind_eq_wrap _ _ | (show (do noteFrame e env; theTreesLotGoes e : Sem Unit).bind (fun _ => .raise e) = _; rw [Sem.bind_eq_wrap]))]
    exact h₃
theorem segBlockNil (h : Seg (model prog w) A R Y n s₀ (.block [] env) (.pure (.done .next)) fs s) :
    Seg (model prog w) A R Y n s₀ (.block [] env) ((model prog w).den (.block [] env)) fs s := h
end
end PySem
namespace L2
open PySem PySem.Spec PyProof.Rows GenW
section
variable {X : Cx} {tg : Expr}
theorem gc_more {S : Addr} {ip ip' : List (Addr × Obj)} {A : Around} {c : Code} {fs : List Frame} {gd : Bool → Bool} (g : GC X S ip A c fs gd) (h : ∀ p ∈ ip', p.1 ≠ S) : GC X S (ip ++ ip') A c fs gd where
  pn := g.pn
  ip := fun p hp => (List.mem_append.mp hp).elim (g.ip p) (h p)
  apart := g.apart
  over := g.over
  split := g.split
  guard := g.guard
  gd := g.gd
theorem GI.less {S : Addr} {ip ip' : List (Addr × Obj)} {ys : List V} {σ : St} {H : Hp} {s : Shared} (h : GI X S (ip ++ ip') ys σ H s) : GI X S ip ys σ H s := by
  obtain ⟨acc, c, r, I⟩ := h
  exact ⟨acc, c, r, I.pins_of fun p hp => I.pin p (List.mem_append_right _ ((List.mem_cons.mp hp).elim (fun e => e ▸ List.mem_cons_self) fun z => List.mem_cons_of_mem _ (List.mem_append_left _ z)))⟩
/-- as tFor, with what is out -/
def tGFor (wi : TI) (g : TG) (tb : TGn) : TGn := fun D ys σ H => wi σ H fun J H1 => ∃ W : Nat → Nat → List V → St → Hp → Prop, (∃ m, W 0 m ys σ H1) ∧ ∀ i m ys σ H, W i m ys σ H →
  (J.stop i H ∧ D.nx ys σ H) ∨ (J.go i H ∧ ∃ N : List V → St → Hp → Prop, (∀ ys' σ' H', N ys' σ' H' → ∃ m', m' < m ∧ W (i + 1) m' ys' σ' H') ∧ ∀ x H', J.yld i H x H' → g x σ H' fun σ2 H2 => tb { D with nx := N, ct := N, bk := D.nx } ys σ2 H2)
theorem gs_for {iter : Expr} {body : List Stmt} {wi : TI} {g : TG} {tb : TGn} {pos : Pos} (hp : PassesOwn (model X.prog X.w) X.A X.env X.xe) (hcalm : X.calm = true) (hi : PI X tg iter wi) (hg : PG X tg g) (hb : GSs X body tb)
    (hs : ∀ x, foldedSetIterable iter X.env x = pure x := by intro _; rfl) : GS X (.For tg iter body [] pos) (tGFor wi g tb) := by
  refine ⟨fun A S ip R n ys s₀ c fs K J gd lv s σ H D gc hn k hI ht => ?_⟩
  obtain ⟨acc, cc, r, I⟩ := hI
  refine segFor ?_ hs
  rw [gc.over]
  refine wpAny_mono (hi.run _ s σ H _ I ht) (fun v s1 h1 => ?_) fun x s' hx => k.exc n s₀ x s' hx
  refine wpAny_mono h1 (fun itv s2 h2 => ?_) fun x s' hx => k.exc n s₀ x s' hx
  obtain ⟨it, fp, tn, J', H2, e, I2, T, st2, f2, W, ⟨m0, w0⟩, turn⟩ := h2
  subst e
  intro p
  have gl := fun (kk : Result → Sem PySem.Fin) => gc_loop (k := kk) (c' := .forLoop tg (.ref it) body [] X.env) (l := lv []) (kp := []) (p := p) gc rfl rfl
  have fpS : ∀ b ∈ fp, b ≠ S := fun b hb e => by
    obtain ⟨_, q1, q2, q3, q4, q5⟩ := f2 b hb
    exact q5 (S, lstObj acc cc) (List.mem_append_right _ List.mem_cons_self) e.symm
  have stat : ∀ {H' : Hp}, (∀ b ∈ fp, H' b = none) → ∀ {acc : Array Value} {c : Nat}, ∀ b ∈ fp, FpOk X ((S, lstObj acc c) :: ip) H' b := fun {H'} hn {acc c} b hb => by
    obtain ⟨_, q1, q2, q3, q4, q5⟩ := f2 b hb
    refine ⟨hn b hb, q1, q2, q3, q4, fun p hp => ?_⟩
    rcases List.mem_append.mp hp with z | z
    · exact q5 p (List.mem_append_left _ z)
    · rcases List.mem_cons.mp z with z | z
      · rw [z]
        exact fun e => fpS b hb e.symm
      · exact q5 p (List.mem_append_right _ (List.mem_cons_of_mem _ z))
  have loop : ∀ (m i n : Nat) (ys : List V) (s₀ s : Shared) (σ : St) (H : Hp), n + ys.length = sizeLine → W i m ys σ H → tn i s.heap → (∀ b ∈ fp, H b = none) → GI X S ip ys σ H s →
      Seg (model X.prog X.w) A R (GY X S) n s₀ (.forLoop tg (.ref it) body [] X.env) ((model X.prog X.w).den (.forLoop tg (.ref it) body [] X.env))
        (.ret (fun r => ((match r with | .ok f => (.pure f : Sem Flow) | .error e => .raise e).onRaise (cameBack X.env)).wrap K J gd lv) none (gd false) (lv []) c p [] :: fs) s := by
    intro m
    induction m using Nat.strongRecOn with
    | ind m ih =>
      intro i n ys s₀ s σ H hn w st fr hI
      have ee : ∀ (n : Nat) (s₀ : Shared) (x : Value) (s' : Shared), X.xe x s' → Seg (model X.prog X.w) A R (GY X S) n s₀ (.forLoop tg (.ref it) body [] X.env)
          ((do noteFrame x X.env; theTreesLotGoes x : Sem Unit).wrap (fun _ => .raise x) .raise id id)
          (.ret (fun r => ((match r with | .ok f => (.pure f : Sem Flow) | .error e => .raise e).onRaise (cameBack X.env)).wrap K J gd lv) none (gd false) (lv []) c p [] :: fs) s' := fun n s₀ x s' hx => by
        refine seg_wrap ?_
        rw [(gl _).over]
        refine wpAny_bind (wpAny_mono (hp x s' hx) (fun _ s'' hcb => wpAny_theTreesLotGoes ?_) fun y s'' hcb => ?_)
        · exact seg_leaf (.error x) (seg_cameBack gc k hcb)
        · exact seg_leaf (.error y) (seg_cameBack gc k hcb)
      refine segForLoop ?_
      rw [(gl _).over]
      obtain ⟨acc, cc, r, I⟩ := hI
      rcases turn i m ys σ H w with ⟨stop, qn⟩ | ⟨go, N, hN, step⟩
      · refine wpAny_mono (T.done X rfl rfl rfl hcalm i _ s σ H X.xe I (stat fr) st stop) (fun rr s4 hh => ?_) fun x s' hx => ee n s₀ x s' hx
        obtain ⟨hr, I4⟩ := hh
        subst hr
        refine seg_again rfl (segBlockNil ?_)
        exact seg_leaf (.ok .next) (k.ok n ys s₀ s4 .next hn ⟨σ, H, ⟨acc, cc, r, I4⟩, qn⟩)
      · refine wpAny_mono (T.item X rfl rfl rfl hcalm i _ s σ H X.xe I (stat fr) st go) (fun rr s4 hh => ?_) fun x s' hx => ee n s₀ x s' hx
        obtain ⟨u, hr, h4⟩ := hh
        subst hr
        refine wpAny_mono h4 (fun _ s5 hh => ?_) fun x s' hx => ee n s₀ x s' hx
        obtain ⟨x, H5, I5, r5, y5, st5, fr5⟩ := hh
        have I5' := I5.pinned (stat fr5) (T.obj _ _ st5)
        refine wpAny_mono (hg.run _ s5 σ H5 x u _ I5' r5 (step x H5 y5)) (fun _ s6 hh => ?_) fun x s' hx => ee n s₀ x s' hx
        obtain ⟨σ6, H6, I6, q6⟩ := hh
        have gm : GC X S (ip ++ pinsAt fp s5.heap) A (.forLoop tg (.ref it) body [] X.env) (.ret (fun r => ((match r with | .ok f => (.pure f : Sem Flow) | .error e => .raise e).onRaise (cameBack X.env)).wrap K J gd lv) none (gd false) (lv []) c p [] :: fs) id :=
          gc_more (gl _) fun q hq => fpS q.1 (of_pinsAt hq).1
        have again : ∀ {n' : Nat} {ys' : List V} {s₀' s7 : Shared} {σ7 : St} {H7 : Hp}, n' + ys'.length = sizeLine → GI X S (ip ++ pinsAt fp s5.heap) ys' σ7 H7 s7 → N ys' σ7 H7 →
            Seg (model X.prog X.w) A R (GY X S) n' s₀' (.forLoop tg (.ref it) body [] X.env) (.pure (.again (.forLoop tg (.ref it) body [] X.env)))
              (.ret (fun r => ((match r with | .ok f => (.pure f : Sem Flow) | .error e => .raise e).onRaise (cameBack X.env)).wrap K J gd lv) none (gd false) (lv []) c p [] :: fs) s7 := fun {n' ys' s₀' s7 σ7 H7} hn' I7 n7 => by
          obtain ⟨m', hm, w7⟩ := hN ys' σ7 H7 n7
          have pz : ∀ b ∈ fp, ∀ o, s5.heap.get? b = some o → s7.heap.get? b = some o ∧ H7 b = none := fun b hb o e => by
            obtain ⟨acc7, c7, _, I7'⟩ := I7
            have z := I7'.pin (b, o) (List.mem_append_right _ (List.mem_cons_of_mem _ (List.mem_append_right _ (mem_pinsAt hb e))))
            exact ⟨z.1, z.2.1⟩
          refine seg_again rfl (ih m' hm (i + 1) n' ys' s₀' s7 σ7 H7 hn' w7 (T.keep _ _ _ st5 fun b hb o e => (pz b hb o e).1) (fun b hb => ?_) I7.less)
          obtain ⟨o, e, d⟩ := T.obj _ _ st5 b hb
          exact (pz b hb o e).2
        refine hb.run A S (ip ++ pinsAt fp s5.heap) R n ys s₀ _ _ _ _ id id s6 σ6 H6 { D with nx := N, ct := N, bk := D.nx } gm hn ⟨fun n' ys' s₀' s3 f hn' hs => ?_, fun n' s₀' x s3 hx => ee n' s₀' x s3 hx⟩ ⟨acc, cc, r, I6⟩ q6
        cases f with
        | next =>
          obtain ⟨σ3, H3, I3, n3⟩ := hs
          exact again hn' I3 n3
        | cont =>
          obtain ⟨σ3, H3, I3, n3⟩ := hs
          exact again hn' I3 n3
        | brk =>
          obtain ⟨σ3, H3, I3, n3⟩ := hs
          exact seg_leaf (.ok .next) (k.ok n' ys' s₀' s3 .next hn' ⟨σ3, H3, I3.less, n3⟩)
        | ret v =>
          obtain ⟨x3, σ3, H3, I3, r3, n3⟩ := hs
          exact seg_leaf (.ok (.ret v)) (k.ok n' ys' s₀' s3 (.ret v) hn' ⟨x3, σ3, H3, I3.less, r3, n3⟩)
  exact loop m0 0 n ys s₀ s2 σ H2 hn w0 st2 (fun b hb => (f2 b hb).1) ⟨acc, cc, r, I2⟩
end
end L2
set_option Elab.async false
set_option linter.all false
set_option maxRecDepth 100000
set_option maxHeartbeats 2000000
/-! Lists of lists of ints; a walk in a generator. -/
namespace Sq
open PySem PySem.Spec PyProof.Rows L2
theorem gfor_it {J : It} {n : Nat} {G : Hp → Prop} {Y : Nat → Hp → V → Hp → Prop} (w : Walk J n G Y) {g : TG} {tb : TGn} {D : GEnds} {ys : List V} {σ : L2.St} {H : Hp} (Pv : Nat → List V → L2.St → Hp → Prop) (h0 : Pv 0 ys σ H) (hG : ∀ i ys σ H, i ≤ n → Pv i ys σ H → G H)
    (hs : ∀ i x ys σ H H', i < n → Pv i ys σ H → Y i H x H' → g x σ H' fun σ2 H2 => tb { D with nx := Pv (i + 1), ct := Pv (i + 1), bk := D.nx } ys σ2 H2) (hd : ∀ ys σ H, Pv n ys σ H → D.nx ys σ H) :
    ∃ W : Nat → Nat → List V → L2.St → Hp → Prop, (∃ m, W 0 m ys σ H) ∧ ∀ i m ys σ H, W i m ys σ H →
      (J.stop i H ∧ D.nx ys σ H) ∨ (J.go i H ∧ ∃ N : List V → L2.St → Hp → Prop, (∀ ys' σ' H', N ys' σ' H' → ∃ m', m' < m ∧ W (i + 1) m' ys' σ' H') ∧ ∀ x H', J.yld i H x H' → g x σ H' fun σ2 H2 => tb { D with nx := N, ct := N, bk := D.nx } ys σ2 H2) := by
  refine ⟨fun i m ys σ H => m = n - i ∧ i ≤ n ∧ Pv i ys σ H, ⟨n, by simp, Nat.zero_le _, h0⟩, ?_⟩
  rintro i m ys σ H ⟨rfl, hi, p⟩
  have q := hG i ys σ H hi p
  by_cases hlt : i < n
  · exact .inr ⟨w.goes i H hlt q, Pv (i + 1), fun ys' σ' H' p' => ⟨n - (i + 1), by omega, rfl, hlt, p'⟩, fun x H' y => hs i x ys σ H H' hlt p (w.yields i H x H' hlt q y)⟩
  · have e : i = n := by omega
    subst e
    exact .inl ⟨w.stops H q, hd ys σ H p⟩
/-- at each of them stands its list of ints -/
def RowsAt (H : Hp) : List Addr → List (List Int) → Prop
  | [], [] => True
  | a :: as, c :: cs => H a = some (.lst (c.map V.int)) ∧ RowsAt H as cs
  | _, _ => False
theorem RowsAt.same {H H' : Hp} (s : Same H H') : ∀ {as : List Addr} {cs : List (List Int)}, RowsAt H as cs → RowsAt H' as cs
  | [], [], _ => trivial
  | _ :: _, _ :: _, h => ⟨s _ _ h.1, RowsAt.same s h.2⟩
  | [], _ :: _, h => h.elim
  | _ :: _, [], h => h.elim
theorem RowsAt.len {H : Hp} : ∀ {as : List Addr} {cs : List (List Int)}, RowsAt H as cs → as.length = cs.length
  | [], [], _ => rfl
  | _ :: _, _ :: _, h => congrArg Nat.succ (RowsAt.len h.2)
  | [], _ :: _, h => h.elim
  | _ :: _, [], h => h.elim
theorem RowsAt.app {H : Hp} : ∀ {as : List Addr} {cs : List (List Int)} {bs : List Addr} {ds : List (List Int)}, RowsAt H as cs → RowsAt H bs ds → RowsAt H (as ++ bs) (cs ++ ds)
  | [], [], _, _, _, h2 => h2
  | _ :: _, _ :: _, _, _, h, h2 => ⟨h.1, RowsAt.app h.2 h2⟩
  | [], _ :: _, _, _, h, _ => h.elim
  | _ :: _, [], _, _, h, _ => h.elim
theorem RowsAt.get {H : Hp} : ∀ {as : List Addr} {cs : List (List Int)} {i : Nat} {c : List Int}, RowsAt H as cs → cs[i]? = some c → ∃ a, as[i]? = some a ∧ H a = some (.lst (c.map V.int))
  | _ :: _, _ :: _, 0, _, h, e => by
    cases e
    exact ⟨_, rfl, h.1⟩
  | _ :: _, _ :: _, i + 1, _, h, e => RowsAt.get (i := i) h.2 e
  | [], _ :: _, _, _, h, _ => h.elim
  | _, [], _, _, _, e => by simp at e
theorem RowsAt.upd {H : Hp} {p : Addr} {o : HO} : ∀ {as : List Addr} {cs : List (List Int)}, RowsAt H as cs → p ∉ as → RowsAt (upd H p o) as cs
  | [], [], _, _ => trivial
  | a :: _, _ :: _, h, n => ⟨by rw [upd_ne (fun z => n (by rw [z]; exact List.mem_cons_self ..))]; exact h.1, RowsAt.upd h.2 (fun z => n (List.mem_cons_of_mem _ z))⟩
  | [], _ :: _, h, _ => h.elim
  | _ :: _, [], h, _ => h.elim
/-- what they hold, as data -/
def dRows (cs : List (List Int)) : List PyData := cs.map fun c => PyData.list (c.map PyData.int)
theorem dp_rows {K : PySem.W.Frag} {H : Hp} : ∀ {as : List Addr} {cs : List (List Int)}, RowsAt H as cs → DpAll K H (as.map V.ref) (dRows cs)
  | [], [], _ => .nil
  | _ :: _, c :: _, h => .cons (.lst (SqL.of h.1) (dp_ints c)) (dp_rows h.2)
  | [], _ :: _, h => h.elim
  | _ :: _, [], h => h.elim
end Sq
set_option Elab.async false
set_option linter.all false
set_option maxRecDepth 100000
set_option maxHeartbeats 1000000
/-! Lists of lists of ints as data. -/
namespace Sq
open PySem PySem.Spec PyProof.Rows L2
theorem eqvAll_ints : ∀ xs ys : List Int, PyData.eqvAll (xs.map PyData.int) (ys.map PyData.int) = decide (xs = ys)
  | [], [] => rfl
  | [], _ :: _ => rfl
  | _ :: _, [] => rfl
  | x :: xs, y :: ys => by
    show (PyData.eqv (.int x) (.int y) && PyData.eqvAll (xs.map PyData.int) (ys.map PyData.int)) = decide (x :: xs = y :: ys)
    rw [eqvAll_ints xs ys]
    have e : PyData.eqv (.int x) (.int y) = decide (x = y) := by
      show (x == y) = decide (x = y)
      by_cases h : x = y
      · rw [decide_eq_true h]; exact beq_iff_eq.mpr h
      · rw [decide_eq_false h]; exact beq_eq_false_iff_ne.mpr h
    rw [e]
    by_cases h1 : x = y
    · by_cases h2 : xs = ys
      · subst h1 h2
        simp
      · simp [h1, h2]
    · simp [h1]
theorem eqv_ints (xs ys : List Int) : PyData.eqv (.list (xs.map PyData.int)) (.list (ys.map PyData.int)) = decide (xs = ys) := eqvAll_ints xs ys
theorem lay_rows : ∀ cs : List (List Int), PyData.canLayAll0 (dRows cs) = true
  | [] => rfl
  | c :: cs => by
    show (PyData.canLayAll0 (c.map PyData.int) && PyData.canLayAll0 (dRows cs)) = true
    rw [lay_rows cs, lays_ints c]
    rfl
theorem deep_rows : ∀ cs : List (List Int), PyData.depthAll (dRows cs) ≤ 2
  | [] => Nat.zero_le _
  | c :: cs => Nat.max_le.mpr ⟨Nat.add_le_add_right (deep_ints c) 1, deep_rows cs⟩
theorem shaped_rows (cs : List (List Int)) : SeqAt.shaped (.list (dRows cs)) = true := shaped_il (lay_rows cs) (Nat.le_trans (Nat.add_le_add_right (deep_rows cs) 1) (by decide))
def rLenK (K : PySem.W.Frag) : List V → Hp → VK → Prop := fun xs H Q => ∃ p ys, xs = [V.ref p] ∧ (SqL K H p ys ∨ SqT K H p ys) ∧ Q (V.int (ys.length : Nat)) H
theorem call_lenK {X : Cx} : CallR X (.builtin "len") (rLenK X.K) := call_len_seq
/-- kept by what turns the source alone -/
theorem RowsAt.keep {H H' : Hp} {l d : Addr} (k : ∀ b o, H b = some o → b ≠ l → b ≠ d → H' b = some o) : ∀ {as : List Addr} {cs : List (List Int)}, RowsAt H as cs → l ∉ as → d ∉ as → RowsAt H' as cs
  | [], [], _, _, _ => trivial
  | a :: _, _ :: _, h, n1, n2 => ⟨k _ _ h.1 (fun z => n1 (by rw [z]; exact List.mem_cons_self ..)) (fun z => n2 (by rw [z]; exact List.mem_cons_self ..)), RowsAt.keep k h.2 (fun z => n1 (List.mem_cons_of_mem _ z)) (fun z => n2 (List.mem_cons_of_mem _ z))⟩
  | [], _ :: _, h, _, _ => h.elim
  | _ :: _, [], h, _, _ => h.elim
end Sq
set_option Elab.async false
set_option linter.all false
set_option maxRecDepth 100000
set_option maxHeartbeats 4000000
/-! {e for a in xs for b in ys}, e an int: over the library's rules of the same with a list. -/
set_option Elab.async false
set_option linter.all false
set_option maxHeartbeats 1000000
/-! Choices counted: the longest run after a replacement, and how many choices are good. -/
namespace Sq
def la (L k : Int) : Int := if k > L then L else (L + 1) / k + k - 2
/-- 2, 3, .., g -/
def cand (g : Int) : List Int := (List.range (g - 1).toNat).map fun i : Nat => 2 + (i : Int)
def cnt (g : Int) : Nat → Int → Nat
  | 0, L => if L ≤ 1 then 1 else 0
  | n + 1, L => ((cand g).map fun k => cnt g n (la L k)).sum
end Sq
set_option Elab.async false
set_option linter.all false
set_option maxRecDepth 100000
set_option maxHeartbeats 1000000
/-! Walks with an open step; members without doubles; the lengths by place. -/
namespace Sq
open PySem PySem.Spec PyProof.Rows L2
/-! ### without doubles -/
/-! ### the lengths by place -/
structure Lens (n : Nat) (g L : Int) (i : Nat) (rows : List (List Int)) : Prop where
  len : rows.length = i + 1
  zero : rows[0]? = some [L]
  asc : ∀ (p : Nat) (r : List Int), rows[p]? = some r → r.Pairwise (· < ·)
  mem : ∀ (p : Nat) (r : List Int), rows[p]? = some r → ∀ x ∈ r, 0 ≤ x ∧ x ≤ L
  next : ∀ (p : Nat) (r r' : List Int), rows[p]? = some r → rows[p + 1]? = some r' → ∀ x, x ∈ r' ↔ (∃ l ∈ r, ∃ k, 2 ≤ k ∧ k ≤ g ∧ x = la l k) ∧ x ≤ up (n - (p + 1)) 1
  short : L < 63 ∨ ∀ (p : Nat) (r : List Int), rows[p]? = some r → r.length ≤ 6
theorem Lens.start {n : Nat} {g L : Int} (h0 : 0 ≤ L) : Lens n g L 0 [[L]] where
  len := rfl
  zero := rfl
  asc := fun p r e => by
    match p, e with
    | 0, e => cases e; exact List.pairwise_singleton _ _
  mem := fun p r e x hx => by
    match p, e with
    | 0, e =>
      cases e
      rw [List.mem_singleton.mp hx]
      exact ⟨h0, Int.le_refl _⟩
  next := fun p r r' e e' => by
    match p, e' with
    | 0, e' => cases e'
    | p + 1, e' => cases e'
  short := .inr fun p r e => by
    match p, e with
    | 0, e => cases e; exact (show 1 ≤ 6 by decide)
end Sq
set_option Elab.async false
set_option linter.all false
set_option maxRecDepth 100000
set_option maxHeartbeats 2000000
/-! Generators that live beside their consumer: what stands, seen from either side. -/
namespace Sq
open PySem PySem.Spec PyProof.Rows L2 GenW
/-! ### the heap up to an address -/
def cutH (h : Heap) (n : Nat) : Heap := { h with objs := (h.objs.toList.take n).toArray }
theorem cutH_at (h : Heap) (n b : Nat) : (cutH h n).objs[b]? = if b < n then h.objs[b]? else none := by
  unfold cutH
  rw [List.getElem?_toArray, List.getElem?_take, Array.getElem?_toList]
theorem cutH_get {h : Heap} {n b : Nat} {o : Obj} : (cutH h n).get? b = some o ↔ b < n ∧ h.get? b = some o := by
  unfold Heap.get?
  rw [cutH_at]
  by_cases c : b < n
  · rw [if_pos c]
    exact ⟨fun q => ⟨c, q⟩, fun q => q.2⟩
  · rw [if_neg c]
    exact ⟨fun q => (nomatch q), fun q => absurd q.1 c⟩
theorem cutH_size {h : Heap} {n : Nat} : (cutH h n).objs.size = min n h.objs.size := by
  unfold cutH
  simp
def cutSh (s : Shared) (n : Nat) : Shared := { s with heap := cutH s.heap n }
theorem cutS_all {s : Shared} {n : Nat} (h : s.heap.objs.size ≤ n) : cutSh s n = s := by
  unfold cutSh cutH
  rw [List.take_of_length_le (by simpa using h)]
theorem frames_cut {h base : Heap} {n : Nat} : ∀ {l : List Env}, h.FunFrames base l → (∀ b ∈ frs l, b < n) → (cutH h n).FunFrames base l
  | [], _, _ => trivial
  | env :: l, q, low => by
    obtain ⟨hk, ⟨L, o, hf, hn, ho, hd⟩, hr⟩ := q
    have eL : frs (env :: l) = L :: frs l := by
      unfold frs
      rw [List.filterMap_cons, hf]
    rw [eL] at low
    exact ⟨hk, ⟨L, o, hf, hn, cutH_get.mpr ⟨low L List.mem_cons_self, ho⟩, hd⟩, frames_cut hr fun b hb => low b (List.mem_cons_of_mem _ hb)⟩
/-! ### what is kept out of sight -/
def HidO (b : Addr) (o : Obj) : HO := .ext fun h => h.get? b = some o
def hidP (prv : List Addr) (h : Heap) (H : Hp) : Hp := fun b => if b ∈ prv then (h.get? b).map (HidO b) else H b
def unh (prv : List Addr) (H : Hp) : Hp := fun b => if b ∈ prv then none else H b
/-! ### an error leaves the generator -/
/-! ### the generator's context -/
def lcx (P : Program) (w : World) (K : PySem.W.Frag) (mg : Str → Option Value) (base : Heap) (N : List Str) (qual : Str) (scope : Scope) (f : Addr) (cd : Value) (A : Around) (outer : List Env) (n0 : Addr) (s0 : Shared) (H0 : Hp) (E : XK) (pn : List (Addr × Obj)) : Cx where
  prog := P
  w := w
  K := K
  mg := mg
  base := base
  A := A.deeper (envOfC qual scope n0 f cd)
  N := N
  s_0 := s0
  H_0 := H0
  env := envOfC qual scope n0 f cd
  outer := outer
  stack := envOfC qual scope n0 f cd :: outer
  ex := []
  calm := true
  fn := fun _ => true
  pn := pn
  xe := fun e s' => wpAny (model P w) (A.deeper (envOfC qual scope n0 f cd)) (leaving (envOfC qual scope n0 f cd) e) (fun _ s'' => L2N.CX P w outer H0 s0 E e s'' ∧ ∀ p ∈ pn, s''.heap.get? p.1 = some p.2) (fun _ _ => False) s'
theorem inv_lcx {P : Program} {w : World} {K : PySem.W.Frag} {mg : Str → Option Value} {base : Heap} {N : List Str} {qual : Str} {scope : Scope} {f : Addr} {cd : Value} {A : Around} {outer : List Env} {s s1 : Shared} {H H1 : Hp} {E : XK} {p : Addr × Obj} {σ : L2.St}
    (I : Inv (gcxOf P w K mg base N qual scope f cd A outer s H E [p]) [] σ H1 s1) : Inv (lcx P w K mg base N qual scope f cd A outer s.heap.objs.size s H E [p]) [] σ H1 s1 := I.toTry _
section
variable {P : Program} {w : World} {K : PySem.W.Frag} {mg : Str → Option Value} {base : Heap} {N : List Str} {qual : Str} {scope : Scope} {f : Addr} {cd : Value} {A : Around} {outer : List Env} {n0 : Addr} {s0 sb s1 s2 : Shared} {Hb H1 H2 : Hp} {E E' : XK} {pn ip : List (Addr × Obj)} {σ : L2.St}
theorem owns_lcx : PassesOwn (model P w) (lcx P w K mg base N qual scope f cd A outer n0 s0 Hb E pn).A (lcx P w K mg base N qual scope f cd A outer n0 s0 Hb E pn).env (lcx P w K mg base N qual scope f cd A outer n0 s0 Hb E pn).xe :=
  passes_of (X := lcx P w K mg base N qual scope f cd A outer n0 s0 Hb E pn) (K := fun e s'' => L2N.CX P w outer Hb s0 E e s'' ∧ ∀ p ∈ pn, s''.heap.get? p.1 = some p.2) (E₁ := fun _ _ => False) rfl
/-- what is the generator's alone: its frame, its cells, its own object, its iterators -/
def cellA (l : List (Str × Addr)) : List Addr := (l.map (·.1)).filterMap fun x => l.lookup x
def prvOf (scope : Scope) (n0 : Addr) (pn ip : List (Addr × Obj)) : List Addr := n0 :: (cellA (cellsFrom (n0 + 1) scope.names []) ++ (pn ++ ip).map (·.1))
end
end Sq
set_option Elab.async false
set_option linter.all false
set_option maxRecDepth 100000
set_option maxHeartbeats 2000000
namespace Sq
open PySem PySem.Spec PyProof.Rows L2 GenW
section
variable {Xc : Cx} {N : List Str} {qual : Str} {scope : Scope} {f : Addr} {cd : Value} {A : Around} {n0 : Addr} {sb s1 s2 : Shared} {Hb H1 H2 : Hp} {E E' : XK} {pn ip pinsC : List (Addr × Obj)} {σ c c2 : L2.St}
abbrev gcx (Xc : Cx) (N : List Str) (qual : Str) (scope : Scope) (f : Addr) (cd : Value) (A : Around) (n0 : Addr) (s0 : Shared) (H0 : Hp) (E : XK) (pn : List (Addr × Obj)) : Cx := lcx Xc.prog Xc.w Xc.K Xc.mg Xc.base N qual scope f cd A Xc.stack n0 s0 H0 E pn
/-- what lies at n0 or above is none of the consumer's -/
structure Above (Xc : Cx) (pinsC : List (Addr × Obj)) (n0 : Addr) : Prop where
  young : Xc.s_0.heap.objs.size ≤ n0
  loc : Xc.env.locals < n0
  cell : ∀ x k, Xc.env.cells.lookup x = some k → k < n0
  pin : ∀ p ∈ Xc.pn ++ pinsC, p.1 < n0
  fr : ∀ b ∈ frs Xc.stack, b < n0
  base : Xc.base.objs.size ≤ n0
theorem above_of (I : Inv Xc pinsC c Hb sb) (h : sb.heap.objs.size ≤ n0) : Above Xc pinsC n0 := by
  have lo : ∀ {b : Addr} {o : Obj}, sb.heap.get? b = some o → b < n0 := fun e => Nat.lt_of_lt_of_le (Heap.lt_size e) h
  refine ⟨Nat.le_trans I.sz h, Nat.lt_of_lt_of_le I.lt h, fun x k e => ?_, fun p hp => lo (I.pin p hp).1, fun b hb => ?_, Nat.le_trans (Nat.le_trans I.ok.bsz I.sz) h⟩
  · obtain ⟨v, o, ho, _⟩ := I.cell x k e
    exact lo ho
  · obtain ⟨_, o, ho, _⟩ := I.stack.mem hb
    exact lo ho
end
end Sq
set_option Elab.async false
set_option linter.all false
set_option maxRecDepth 100000
set_option maxHeartbeats 1000000
/-! Counting: how many lengths up to a limit become one that is told. -/
set_option Elab.async false
set_option linter.all false
set_option maxRecDepth 100000
set_option maxHeartbeats 1000000
/-! A dict of limits, each with how often it counts: what it says of a length. -/
namespace Sq
open PySem PySem.Spec PyProof.Rows L2
/-! ### dicts from ints to ints -/
def one (b : Bool) : Int := if b = true then 1 else 0
/-! ### counts -/
end Sq
set_option Elab.async false
set_option linter.all false
set_option maxRecDepth 100000
set_option maxHeartbeats 1000000
/-! One replacement more: the next dict of limits. -/
set_option Elab.async false
set_option linter.all false
set_option maxRecDepth 100000
set_option maxHeartbeats 2000000
/-! Objects of an own class: made, their methods called, their properties read, where these may raise too. -/
namespace Sq
open PySem PySem.Spec PyProof.Rows L2
theorem at0 {X : Cx} : ∀ σ, PassesAt CX0 X σ ((fun _ => E0 : L2.St → XK) σ) := fun _ _ _ _ _ _ _ h => h.elim
end Sq
set_option Elab.async false
set_option linter.all false
set_option maxRecDepth 100000
set_option maxHeartbeats 1000000
/-! a <= b <= c <= d as a test; the number of all origins. -/
set_option Elab.async false
set_option linter.all false
set_option maxRecDepth 100000
set_option maxHeartbeats 1000000
/-! The number of all origins, replacement by replacement. -/
set_option Elab.async false
set_option linter.all false
set_option maxRecDepth 100000
set_option maxHeartbeats 1000000
/-! yield from a list. -/
namespace L2
open PySem PySem.Spec PyProof.Rows GenW
end L2
set_option Elab.async false
set_option linter.all false
set_option maxRecDepth 100000
set_option maxHeartbeats 2000000
namespace Sq
open PySem PySem.Spec PyProof.Rows L2 GenW
/-- a generator and its consumer -/
structure Lv where
  Xc : Cx
  pinsC : List (Addr × Obj)
  N : List Str
  qual : Str
  scope : Scope
  f : Addr
  cd : Value
  A : Around
  n0 : Addr
  a : Addr
  go : Obj
  g : Nat
  E : XK
  sC : Shared
  HC : Hp
  tot : Nat
  M : Addr → Prop
  It : Nat → V → Hp → Prop
  J : Nat → L2.St → Hp → Prop
abbrev Lv.cx (L : Lv) (s0 : Shared) (H0 : Hp) (E : XK) : Cx := gcx L.Xc L.N L.qual L.scope L.f L.cd L.A L.n0 s0 H0 E [(L.a, L.go)]
abbrev Lv.prv (L : Lv) (ip : List (Addr × Obj)) : List Addr := prvOf L.scope L.n0 [(L.a, L.go)] ip
abbrev Lv.md (L : Lv) : Model := model L.Xc.prog L.Xc.w
structure Lv.Ok (L : Lv) : Prop where
  ab : Above L.Xc L.pinsC L.n0
  isG : ∀ h : Heap, h.get? L.a = some L.go → h.IsGen L.a L.g
  na : L.n0 ≤ L.a
/-- the consumer leaves what it doesn't own -/
def Kps (M : Addr → Prop) (x : V) (H1 H2 : Hp) : Prop := ∀ b o, H1 b = some o → ¬ M b → x ≠ .ref b → H2 b = some o
def Lv.Seat (L : Lv) (i : Nat) (Hb : Hp) (s0 : Shared) (E' : XK) : Prop := ∃ c sb, s0 = cutSh sb L.n0 ∧ L.n0 ≤ sb.heap.objs.size ∧ Inv L.Xc L.pinsC c Hb sb ∧ L.J i c Hb ∧ ((i = 0 ∧ s0 = L.sC ∧ Hb = L.HC ∧ E' = L.E) ∨ E' = E0)
def Lv.Y (L : Lv) : Protocol := fun n s₀ v s kap => ∃ (i : Nat) (c : L2.St) (Hb H1 : Hp) (x : V) (ip : List (Addr × Obj)), n + 1 + i = L.tot ∧ L.J i c Hb ∧ Same Hb H1 ∧ L.It i x H1 ∧ RelV x v ∧ Inv L.Xc L.pinsC c (hidP (L.prv ip) s.heap H1) s ∧ (∀ b ∈ L.prv ip, H1 b = none ∧ ∃ o, s.heap.get? b = some o) ∧ s.heap.IsGen L.a L.g ∧
  ∀ s2 c2 H2, Inv L.Xc L.pinsC c2 H2 s2 → (∀ b ∈ L.prv ip, H2 b = hidP (L.prv ip) s.heap H1 b) → Kps L.M x H1 (unh (L.prv ip) H2) → L.J (i + 1) c2 (unh (L.prv ip) H2) → kap (.send .none) s2
def Lv.R (L : Lv) : GenEnd := fun n s₀ r s => ((r = .ok (.ret .none) ∨ r = .ok .next) ∧ ∃ c Hb H1, L.J L.tot c Hb ∧ Same Hb H1 ∧ Inv L.Xc L.pinsC c H1 s) ∨ ∃ e, r = .error e ∧ L2N.CX L.Xc.prog L.Xc.w L.Xc.stack L.HC L.sC L.E e s ∧ s.heap.IsGen L.a L.g
structure GEndL where
  nx : Nat → Hp → L2.St → Hp → Prop
  rt : Nat → Hp → VK
  bk : Nat → Hp → L2.St → Hp → Prop := fun _ _ _ _ => False
  ct : Nat → Hp → L2.St → Hp → Prop := fun _ _ _ _ => False
def GEndL.at (D : GEndL) (i : Nat) (Hb : Hp) : Ends := { nx := D.nx i Hb, rt := D.rt i Hb, bk := D.bk i Hb, ct := D.ct i Hb }
abbrev TGL := GEndL → Nat → Hp → L2.St → Hp → Prop
structure Lv.GC (L : Lv) (ip : List (Addr × Obj)) (c : Code) (fs : List Frame) (gd : Bool → Bool) : Prop where
  over : L.A.over c fs = L.A.deeper (envOfC L.qual L.scope L.n0 L.f L.cd)
  split : splitAtGen fs = none
  guard : fs.any Frame.guarded = false
  gd : gd false = false
  low : ∀ p ∈ ip, L.n0 ≤ p.1
structure Lv.GK (L : Lv) (ip : List (Addr × Obj)) (c : Code) (fs : List Frame) (Kf : Flow → Sem PySem.Fin) (Je : Value → Sem PySem.Fin) (D : GEndL) : Prop where
  ok : ∀ (n i : Nat) (s₀ s s0 : Shared) (E' : XK) (Hb : Hp) (fl : Flow), n + i = L.tot → L.Seat i Hb s0 E' → SP (L.cx s0 Hb E') ip (D.at i Hb) fl s → Seg L.md L.A L.R L.Y n s₀ c (Kf fl) fs s
  exc : ∀ (n i : Nat) (s₀ : Shared) (e : Value) (s s0 : Shared) (E' : XK) (Hb : Hp), L.Seat i Hb s0 E' → (L.cx s0 Hb E').xe e s → Seg L.md L.A L.R L.Y n s₀ c (Je e) fs s
section
variable {L : Lv} {st : Stmt} {rest : List Stmt}
def tLPlain (t : TS) : TGL := fun D i Hb σ H => t (D.at i Hb) σ H
def tL0 : TGL := fun D i Hb σ H => D.nx i Hb σ H
def tLThen (t u : TGL) : TGL := fun D i Hb σ H => t { D with nx := fun i' Hb' σ' H' => u D i' Hb' σ' H' } i Hb σ H
/-! ### yield -/
/-! ### for -/
end
end Sq
set_option Elab.async false
set_option linter.all false
set_option maxRecDepth 100000
set_option maxHeartbeats 2000000
set_option Elab.async false
set_option linter.all false
set_option maxRecDepth 100000
set_option maxHeartbeats 2000000
namespace Sq
open PySem PySem.Spec PyProof.Rows L2 GenW
/-! ### a generator def, for a consumer that lives beside it -/
abbrev SpL := List V → Hp → (Addr → Prop) → Nat → (Nat → V → Hp → Prop) → XK → Prop
/-- what a call gives: a generator that has not begun -/
def LMade (Xc : Cx) (pinsC : List (Addr × Obj)) (k : Nat) (c : L2.St) (H : Hp) (s : Shared) (M : Addr → Prop) (tot : Nat) (It : Nat → V → Hp → Prop) (E : XK) (u : Value) (s' : Shared) : Prop :=
  ∃ (a : Addr) (g : Nat) (code : Code), u = .ref a ∧ s.heap.objs.size ≤ a ∧ s'.heap.IsGen a g ∧ s'.gens[g]? = some (.fresh code) ∧ s'.os = s.os ∧ AllBare s'.gens ∧ s'.heap.NoLimit ∧ (∀ b o, s.heap.get? b = some o → s'.heap.get? b = some o) ∧
    ∀ (J : Nat → L2.St → Hp → Prop) (A : Around) (s2 : Shared), J 0 c H → Room k A → A.frames = some Xc.stack → (∀ b o, s'.heap.get? b = some o → s2.heap.get? b = some o) → s2.os = s.os → AllBare s2.gens →
      ∃ L : Lv, L.Ok ∧ L.Xc = Xc ∧ L.pinsC = pinsC ∧ L.a = a ∧ L.g = g ∧ L.M = M ∧ L.tot = tot ∧ L.It = It ∧ L.J = J ∧ L.E = E ∧ L.sC = s ∧ L.HC = H ∧ L.A = A ∧ Seg L.md L.A L.R L.Y L.tot s2 code (L.md.den code) [] s2
structure GFnL (P : Program) (w : World) (K : PySem.W.Frag) (mg : Str → Option Value) (base : Heap) (k : Nat) (f : Addr) (fd : FuncData) (ps : List Str) (sp : SpL) : Prop where
  len : ∀ vs H M tot It E, sp vs H M tot It E → vs.length = ps.length
  run : ∀ (Xc : Cx) (pinsC : List (Addr × Obj)) (c : L2.St) (s : Shared) (H : Hp) (args : Args) (us : List Value) (vs : List V) (M : Addr → Prop) (tot : Nat) (It : Nat → V → Hp → Prop) (E : XK), Xc.prog = P → Xc.w = w → Xc.K = K → Xc.mg = mg → Xc.base = base → Inv Xc pinsC c H s → Room k Xc.A → BindsTo s fd args (ps.zip us) → Vals vs us → sp vs H M tot It E →
    codeAny (model P w) Xc.A (.call (.ref f) args) (fun r s' => match r with | .ok (.ret u) => LMade Xc pinsC k c H s M tot It E u s' | _ => False) s
end Sq
set_option Elab.async false
set_option linter.all false
set_option maxRecDepth 100000
set_option maxHeartbeats 2000000
/-! Code that leaves the generators' table as it is. -/
namespace Sq
open PySem PySem.Spec PyProof.Rows L2 GenW
section
variable {X : Cx} {pins : List (Addr × Obj)} {σ : L2.St} {H : Hp} {s : Shared}
structure GE (X : Cx) (e : Expr) (t : TE) : Prop where
  run : ∀ (pins : List (Addr × Obj)) (s : Shared) (σ : L2.St) (H : Hp) (Q : VK), Inv X pins σ H s → t σ H Q → wpAny (model X.prog X.w) X.A (eval e X.env) (fun u s' => s'.gens = s.gens ∧ EP X pins σ Q u s') X.xe s
structure GA (X : Cx) (es : List Expr) (t : TA) : Prop where
  run : ∀ (pos : Pos) (pins : List (Addr × Obj)) (s : Shared) (σ : L2.St) (H : Hp) (Q : List V → Hp → Prop), Inv X pins σ H s → t σ H Q → wpAny (model X.prog X.w) X.A (spliced (backTo pos (starEach es X.env))) (fun us s' => s'.gens = s.gens ∧ AP X pins σ Q us s') X.xe s
structure GT (X : Cx) (e : Expr) (t : TT) : Prop where
  run : ∀ (pins : List (Addr × Obj)) (s : Shared) (σ : L2.St) (H : Hp) (Q : Bool → Hp → Prop), Inv X pins σ H s → t σ H Q → wpAny (model X.prog X.w) X.A (isTrue e X.env (eval e X.env)) (fun b s' => s'.gens = s.gens ∧ TP X pins σ Q b s') X.xe s
structure GSt (X : Cx) (st : Stmt) (t : TS) : Prop where
  run : ∀ (pins : List (Addr × Obj)) (s : Shared) (σ : L2.St) (H : Hp) (D : Ends), Inv X pins σ H s → t D σ H → wpAny (model X.prog X.w) X.A (exec st X.env) (fun f s' => s'.gens = s.gens ∧ SP X pins D f s') X.xe s
structure GSts (X : Cx) (st : List Stmt) (t : TS) : Prop where
  run : ∀ (pins : List (Addr × Obj)) (s : Shared) (σ : L2.St) (H : Hp) (D : Ends), Inv X pins σ H s → t D σ H → wpAny (model X.prog X.w) X.A (execs st X.env) (fun f s' => s'.gens = s.gens ∧ SP X pins D f s') X.xe s
structure GG (X : Cx) (tg : Expr) (t : TG) : Prop where
  run : ∀ (pins : List (Addr × Obj)) (s : Shared) (σ : L2.St) (H : Hp) (v : V) (u : Value) (Q : L2.St → Hp → Prop), Inv X pins σ H s → RelV v u → t v σ H Q → wpAny (model X.prog X.w) X.A (assign tg X.env u) (fun _ s' => s'.gens = s.gens ∧ ∃ σ' H', Inv X pins σ' H' s' ∧ Q σ' H') X.xe s
def CallG (X : Cx) (f : Value) (r : List V → Hp → VK → Prop) : Prop := ∀ (pins : List (Addr × Obj)) (s : Shared) (σ : L2.St) (H : Hp) (vs : List V) (us : List Value) (Q : VK), Inv X pins σ H s → Vals vs us → r vs H Q → wpAny (model X.prog X.w) X.A (call f us) (fun u s' => s'.gens = s.gens ∧ EP X pins σ Q u s') X.xe s
/-! ### expressions -/
theorem ge_var {i : Nat} {x : Str} {pos : Pos} (hN : X.N[i]? = some x) (hv : Vis X.env.scope x) (hd : (x == ("__debug__" : Str)) = false := by decide) (hcd : (x == ("__classdict__" : Str)) = false := by decide) : GE X (.Name x pos) (tVar i) :=
  ⟨fun pins s σ H Q I h => by
    obtain ⟨v, e, q⟩ := h
    exact raw_name hN hv I e (fun u r => ⟨rfl, v, H, I, r, q⟩) hd hcd⟩
theorem ge_int {i : Int} {k : Nat} {pos : Pos} : GE X (.Constant (.int i) k pos) (tC (.int i)) :=
  ⟨fun pins s σ H Q I h => wpAny_Constant_int ⟨rfl, .int i, H, I.tok _, ⟨_, rfl⟩, h⟩⟩
theorem ga_nil : GA X [] tNil := ⟨fun pos pins s σ H Q I h => Calls.spliced_nil ⟨rfl, [], H, I, .nil, h⟩⟩
theorem ga_cons {e : Expr} {es : List Expr} {te : TE} {t : TA} (ha : GE X e te) (hr : GA X es t) (hs : starEach (e :: es) X.env = (false, eval e X.env) :: starEach es X.env := by rfl) : GA X (e :: es) (tCons te t) := by
  refine ⟨fun pos pins s σ H Q I h => ?_⟩
  rw [hs]
  show wpAny _ _ (spliced ((false, eval e X.env) :: backTo pos (starEach es X.env))) _ _ s
  refine Calls.spliced_cons (thn (ha.run pins s σ H _ I h) fun u s1 hh => ?_)
  obtain ⟨g1, x, H1, I1, r1, q1⟩ := hh
  exact thn (hr.run pos pins s1 σ H1 _ I1 q1) fun us s2 ⟨g2, xs, H2, I2, r2, q2⟩ => ⟨g2.trans g1, x :: xs, H2, I2, .cons r1 r2, q2⟩
theorem ge_lst {es : List Expr} {ta : TA} {pos : Pos} (h : GA X es ta) : GE X (.List es pos) (tLst ta) := by
  refine ⟨fun pins s σ H Q I hq => ?_⟩
  refine wpAny_List_spliced (thn (h.run pos pins s σ H _ I hq) fun us s1 hh => ?_)
  obtain ⟨g1, xs, H1, I1, r, z, q⟩ := hh
  refine ⟨by rw [← r.length]; exact z, g1, .ref s1.heap.objs.size, upd H1 s1.heap.objs.size (.lst xs), I1.laid (t' := s1.toks) (fun b u e => Heap.get?_push_of_some _ e) (Nat.le_refl _) ?_, rfl, q _ (I1.hok.fresh (Nat.le_refl _))⟩
  exact ⟨z, us, 0, r, Heap.get?_push_size _ rfl⟩
theorem ge_callB {id : String} {r : List V → Hp → VK → Prop} {x : Str} {p pos : Pos} {e : Expr} {es : List Expr} {t : TA} (hc : CallG X (.builtin id) r) (hg : Gl X x) (hm : X.mg x = none) (hv : bootBuiltins x = some (.builtin id)) (ha : GA X (e :: es) t) (hn : x ≠ "__name__" := by decide) (hdb : (x == ("__debug__" : Str)) = false := by decide)
    (he : starEach (e :: es) X.env = (false, eval e X.env) :: starEach es X.env := by rfl) (hpl : (backTo pos (starEach es X.env)).any (·.1) = false := by rfl) : GE X (.Call (.Name x p) (e :: es) [] pos) (tCB r t) := by
  refine ⟨fun pins s σ H Q I h => ?_⟩
  refine wpAny_Call_Name_kw (ld_blt I hg hm hv ?_ hn hdb)
  refine PyProof.Rows.callWith_builtin1 (thn (ha.run pos pins s σ H _ I h) fun us s1 hh => ?_) he hpl
  obtain ⟨g1, vs, H1, I1, r1, q1⟩ := hh
  exact thn (hc pins s1 σ H1 vs us Q I1 r1 q1) fun u s2 ⟨g2, q2⟩ => ⟨g2.trans g1, q2⟩
/-! ### statements -/
theorem gst_expr {e : Expr} {te : TE} {pos : Pos} (he : GE X e te) (hs : swapsWith e none pos.line X.env = pure false := by rfl) : GSt X (.Expr e pos) (tDrop te) := by
  refine ⟨fun pins s σ H D I h => ?_⟩
  refine wpAny_Expr_any (thn (he.run pins s σ H _ I h) fun v s1 hh => ?_) I.quiet hs
  obtain ⟨g1, x, H1, I1, r1, q1⟩ := hh
  exact ⟨g1, σ, H1, I1, q1⟩
theorem gsts_nil : GSts X [] tNext := ⟨fun _ _ σ H _ I h => wpAny_execs_nil ⟨rfl, σ, H, I, h⟩⟩
theorem gsts_cons {st : Stmt} {rest : List Stmt} {t u : TS} (h1 : GSt X st t) (h2 : GSts X rest u) : GSts X (st :: rest) (tSeq t u) := by
  refine ⟨fun pins s σ H D I h => ?_⟩
  refine wpAny_execs_cons (thn (h1.run pins s σ H { D with nx := u D } I h) fun f s1 hh => ?_)
  obtain ⟨g1, q⟩ := hh
  match f, q with
  | .next, ⟨σ', H', I', q⟩ => exact thn (h2.run pins s1 σ' H' D I' q) fun f2 s2 ⟨g2, q2⟩ => ⟨g2.trans g1, q2⟩
  | .ret v, q => exact ⟨g1, q⟩
  | .brk, q => exact ⟨g1, q⟩
  | .cont, q => exact ⟨g1, q⟩
theorem gsts_one {st : Stmt} {t : TS} (h1 : GSt X st t) : GSts X [st] t := by
  refine ⟨fun pins s σ H D I h => ?_⟩
  refine wpAny_execs_cons (thn (h1.run pins s σ H D I h) fun f s1 hh => ?_)
  obtain ⟨g1, q⟩ := hh
  match f, q with
  | .next, q => exact wpAny_execs_nil ⟨g1, q⟩
  | .ret v, q => exact ⟨g1, q⟩
  | .brk, q => exact ⟨g1, q⟩
  | .cont, q => exact ⟨g1, q⟩
theorem gst_if {c : Expr} {a b : List Stmt} {tc : TT} {t u : TS} {pos : Pos} (hc : GT X c tc) (ha : GSts X a t) (hb : GSts X b u) : GSt X (.If c a b pos) (tIfS tc t u) := by
  refine ⟨fun pins s σ H D I h => ?_⟩
  refine wpAny_If (thn (hc.run pins s σ H _ I h) fun d s1 hh => ?_)
  obtain ⟨g1, H1, I1, q1⟩ := hh
  cases d with
  | true => exact thn (ha.run pins s1 σ H1 D I1 q1) fun f2 s2 ⟨g2, q2⟩ => ⟨g2.trans g1, q2⟩
  | false => exact thn (hb.run pins s1 σ H1 D I1 q1) fun f2 s2 ⟨g2, q2⟩ => ⟨g2.trans g1, q2⟩
/-- a local name is stored -/
theorem gg_name {i : Nat} {x : Str} {pos : Pos} (hN : X.N.Nodup) (hi : X.N[i]? = some x) (hx : X.env.scope.names.lookup x = some .local) (hk : X.env.kindOf x = some .local := by first | rfl | assumption) : GG X (.Name x pos) (gName i) := by
  refine ⟨fun pins s σ H v u Q I r h => ?_⟩
  refine wpAny_assign_Name ?_
  obtain ⟨m, hn, hl⟩ := id I.loc
  have hcls : (X.env.scope.kind == .class || (X.env.scope.kind == .module && X.env.locals != X.env.globals)) = false := by rw [I.ok.kind]; rfl
  have hiσ : i < σ.length := by rw [I.len]; exact (List.getElem?_eq_some_iff.mp hi).1
  refine wpAny_storeName_local hk hn (fun h' hn' hs => ⟨rfl, σ.set i (some v), H, ?_, h⟩) hcls
  have old : ∀ b o, X.s_0.heap.get? b = some o → b ≠ X.env.locals := fun b o e => Nat.ne_of_lt (Nat.lt_of_lt_of_le (Heap.lt_size e) I.ok.above)
  obtain ⟨oL, _, _, hoL, _⟩ := id hn
  refine ⟨I.ok, I.os, I.bare, ⟨fun b o e n hb hx => ?_, fun b o e n hb hx => ?_, I.base.free, fun b o e hx => ?_, I.base.tups, I.base.frzs, I.base.tbls⟩, ⟨_, hn', fun j y v' e1 e2 e3 => ?_⟩, fun y c e => ?_, I.free, I.freeC, fun p hp => ?_, fun b ob e => ?_, by simpa using I.len⟩
  · exact (hs.2 b (old b o e)).trans (I.base.keep b o e n hb hx)
  · obtain ⟨sl, e1⟩ := I.base.slot b o e n hb hx
    exact ⟨sl, (hs.2 b (old b o e)).trans e1⟩
  · obtain ⟨o', e1⟩ := I.base.there b o e hx
    exact ⟨o', (hs.2 b (old b o e)).trans e1⟩
  · by_cases hj : j = i
    · subst hj
      rw [hi] at e1
      cases e1
      rw [List.getElem?_set_self hiσ] at e2
      cases e2
      exact ⟨u, r, .inl ⟨hk, by simp⟩⟩
    · rw [List.getElem?_set_ne (Ne.symm hj)] at e2
      obtain ⟨u', r', q⟩ := hl j y v' e1 e2 e3
      refine ⟨u', r', ?_⟩
      rcases q with ⟨k, e⟩ | ⟨k, c, e, z⟩
      · have ne : y ≠ x := fun e => hj (nodup_ix hN e1 (e ▸ hi))
        exact .inl ⟨k, by simp [ne, e]⟩
      · exact .inr ⟨k, c, e, z.sameBut hs (I.cne y c e)⟩
  · obtain ⟨w', z⟩ := I.cell y c e
    exact ⟨w', z.sameBut hs (I.cne y c e)⟩
  · obtain ⟨e, n, ne, nf, d⟩ := I.pin p hp
    exact ⟨(hs.2 p.1 ne).trans e, n, ne, nf, d⟩
  · refine (I.hok b ob e).stay (fun c w' hc q => (hs.2 c ?_).trans q) (fun _ q => q) fun _ _ q => q
    rintro rfl
    rcases hc with rfl | hc
    · rw [I.free] at e
      cases e
    · rw [I.free] at hc
      cases hc
end
end Sq
set_option Elab.async false
set_option linter.all false
set_option maxRecDepth 100000
set_option maxHeartbeats 2000000
/-! for x in g(e, ..): body, where g is a generator def that lives beside its consumer. -/
namespace Sq
open PySem PySem.Spec PyProof.Rows L2 GenW
/-- a generator def by its name -/
structure Dl (P : Program) (w : World) (K : PySem.W.Frag) (mg : Str → Option Value) (base : Heap) (k : Nat) (x : Str) (ps : List Str) (sp : SpL) : Prop where
  ex : ∃ f fd, GFnL P w K mg base k f fd ps sp ∧ mg x = some (.ref f) ∧ PySem.W.keepIn K (.ref f) = true ∧ Binds K fd ps []
end Sq
set_option Elab.async false
set_option linter.all false
set_option maxRecDepth 100000
set_option maxHeartbeats 2000000
set_option Elab.async false
set_option linter.all false
set_option maxRecDepth 100000
set_option maxHeartbeats 2000000
/-! More code that leaves the generators' table as it is: calls of defs, operators, tuples, enumerate. -/
namespace Sq
open PySem PySem.Spec PyProof.Rows L2 GenW
/-- a def that keeps the table and lets nothing out -/
structure FnQ (P : Program) (w : World) (K : PySem.W.Frag) (mg : Str → Option Value) (base : Heap) (k : Nat) (f : Addr) (fd : FuncData) (ps : List Str) (sp : Sp) : Prop where
  len : ∀ vs H Q E, sp vs H Q E → vs.length = ps.length
  run : ∀ (A : Around) (outer : List Env) (s : Shared) (H : Hp) (args : Args) (us : List Value) (vs : List V) (Q : VK), Room k A → Env0 P w K mg base A outer s H → BindsTo s fd args (ps.zip us) → Vals vs us → sp vs H Q E0 →
    codeAny (model P w) A (.call (.ref f) args) (fun r s' => match r with | .ok (.ret u) => s'.gens = s.gens ∧ CE outer P w H s Q u s' | _ => False) s
structure Dq (P : Program) (w : World) (K : PySem.W.Frag) (mg : Str → Option Value) (base : Heap) (k : Nat) (x : Str) (ps : List Str) (sp : Sp) : Prop where
  ex : ∃ f fd, FnQ P w K mg base k f fd ps sp ∧ mg x = some (.ref f) ∧ PySem.W.keepIn K (.ref f) = true ∧ Binds K fd ps []
theorem fnq_of {P : Program} {w : World} {K : PySem.W.Frag} {mg : Str → Option Value} {base : Heap} {x qual : Str} {st : Stmt} {f : Addr} {fd : FuncData} {N ps : List Str} {k : Nat} {sp : Sp} (F : Fun K x qual st f fd) (S : FnScope N ps (defScope st)) (len : ∀ vs H Q E, sp vs H Q E → vs.length = ps.length)
    (walk : ∀ (cdv : Value) (A : Around) (outer : List Env) (s : Shared) (H : Hp) (vs : List V) (Q : VK), Room k (A.deeper (envOfC qual (defScope st) s.heap.objs.size f cdv)) → sp vs H Q E0 →
      ∃ t, GSts (cxOf CX0 P w K mg base N qual (defScope st) f cdv A outer s H E0).nox (defBody st) t ∧ t { nx := fun _ H' => Q .non H', rt := Q } (L2.start N vs) H) : FnQ P w K mg base (k + 1) f fd ps sp := by
  obtain ⟨oc, od, kV, doc, pm, an, cdv, ct, osl, rfl, lk, hcd⟩ := F.ex
  refine ⟨len, fun A outer s H args us vs Q hr e0 hb r hsp => ?_⟩
  have hl := len _ _ _ _ hsp
  have KX : K.In s.heap := e0.mod.kin.keeps fun b o e => (e0.bs b o e).1
  have lim : s.heap.NoLimit := e0.mod.nolimit.keeps fun b o e => (e0.bs b o e).1
  have hkind : ∀ y ∈ ps.zip us, (defScope st).names.lookup y.1 = some .local ∨ ((defScope st).names.lookup y.1 = some .cell ∧ ((cellsFrom (s.heap.objs.size + 1) (defScope st).names []).lookup y.1).isSome = true) := fun ⟨n, v⟩ hy =>
    (S.par n (List.of_mem_zip hy).1).elim .inl fun z => .inr ⟨z, PySem.W.cellsFrom_some _ _ _ (.inl z)⟩
  refine codeAny_call_function hr.depth (KX _ _ lk) rfl S.co S.gen rfl (PySem.W.codeRec_of KX hcd) (hb _ _ _ _ ?_)
  refine wpAny_newFunctionEnv_cells S.kind hkind fun env he s1 made => ?_
  subst he
  refine ⟨lim.keeps made.toInCall.keep, codeAny_func ?_⟩
  have gen1 : s1.gens = s.gens := by
    obtain ⟨h1, tk, es1, _⟩ := made.done
    rw [es1]
  obtain ⟨t, ht, hq⟩ := walk cdv A outer s H vs Q (hr.deeper _) hsp
  have I : Inv (cxOf CX0 P w K mg base N qual (defScope st) f cdv A outer s H E0).nox [] (start N vs) H s1 := (inv_start S hr.hd e0 hl r made).wish _
  refine wpAny_mono (ht.run [] s1 (start N vs) H _ I hq) (fun fl s' hs => ?_) fun e s' hs => False.elim hs
  obtain ⟨g, hs⟩ := hs
  match fl, hs with
  | .ret u, ⟨v, σ', H', J, rv, q⟩ => exact ⟨g.trans gen1, v, H', J.os, J.bare, J.base, J.hok, rv, q⟩
  | .next, ⟨σ', H', J, q⟩ => exact ⟨g.trans gen1, V.non, H', J.os, J.bare, J.base, J.hok, rfl, q⟩
  | .brk, ⟨_, _, _, q⟩ => exact False.elim q
  | .cont, ⟨_, _, _, q⟩ => exact False.elim q
section
variable {X : Cx} {pins : List (Addr × Obj)} {σ : L2.St} {H : Hp} {s : Shared} {k : Nat} {ps : List Str} {sp : Sp} {x : Str} {p pos : Pos} {e : Expr} {es : List Expr} {t : TA}
theorem ge_callU (D : Dq X.prog X.w X.K X.mg X.base k x ps sp) (hr : Room k X.A) (hg : Gl X x) (ha : GA X (e :: es) t) (hdb : (x == ("__debug__" : Str)) = false := by decide)
    (he : starEach (e :: es) X.env = (false, eval e X.env) :: starEach es X.env := by rfl) (hpl : (backTo pos (starEach es X.env)).any (·.1) = false := by rfl) : GE X (.Call (.Name x p) (e :: es) [] pos) (tCall sp [] E0 t) := by
  obtain ⟨f, fd, F, g, kp, b⟩ := D.ex
  refine ⟨fun pins s σ H Q I h => ?_⟩
  refine wpAny_Call_Name_kw (ld_glob I hg g ?_ hdb)
  refine PySem.W.callWith_K (h₀ := X.base) I.ok.mod.kin kp (thn (ha.run pos pins s σ H _ I h) fun us s1 hh => ?_) he hpl
  obtain ⟨g1, vs, H1, I1, r, q⟩ := hh
  refine ⟨I1.kIn, ?_⟩
  rw [List.append_nil] at q
  have hl : us.length = ps.length := by rw [← r.length]; exact F.len _ _ _ _ q
  have bind := b s1 us I1.kIn (by rw [List.append_nil]; exact hl)
  rw [List.append_nil] at bind
  refine wpAny_call (codeAny_mono (F.run X.A X.stack s1 H1 ⟨us, []⟩ us vs Q hr I1.env0 bind r q) fun r s' hq => ?_)
  match r, hq with
  | .ok (.ret u), hq => exact ⟨hq.1.trans g1, I1.after hq.2⟩
/-- a + b, two ints -/
def tAddI (ta tb : TE) : TE := fun σ H Q => ta σ H fun x H1 => tb σ H1 fun y H2 => ∃ i j, x = .int i ∧ y = .int j ∧ Q (.int (i + j)) H2
theorem ge_add {a b : Expr} {ta tb : TE} (ha : GE X a ta) (hb : GE X b tb) : GE X (.BinOp a .Add b pos) (tAddI ta tb) := by
  refine ⟨fun pins s σ H Q I h => ?_⟩
  refine wpAny_BinOp (thn (ha.run pins s σ H _ I h) fun v s1 hh => ?_)
  obtain ⟨g1, x, H1, I1, r1, q1⟩ := hh
  refine thn (hb.run pins s1 σ H1 _ I1 q1) fun u s2 hh => ?_
  obtain ⟨g2, y, H2, I2, r2, i, j, rfl, rfl, q⟩ := hh
  obtain ⟨t1, rfl⟩ := r1
  obtain ⟨t2, rfl⟩ := r2
  exact add_int ⟨g2.trans g1, .int (i + j), H2, I2.tok _, ⟨_, rfl⟩, q⟩
/-- a < b, two ints -/
def tLtI (ta tb : TE) : TT := fun σ H Q => ta σ H fun x H1 => tb σ H1 fun y H2 => ∃ i j, x = .int i ∧ y = .int j ∧ Q (decide (i < j)) H2
theorem gt_lt {a b : Expr} {ta tb : TE} (ha : GE X a ta) (hb : GE X b tb) (hm : behindInMarks .Lt b = false) : GT X (.Compare a [.Lt] [b] pos) (tLtI ta tb) := by
  refine ⟨fun pins s σ H Q I h => ?_⟩
  refine wpAny_isTrue_Compare1 (thn (ha.run pins s σ H _ I h) fun v s1 hh => ?_) hm
  obtain ⟨g1, x, H1, I1, r1, q1⟩ := hh
  refine thn (hb.run pins s1 σ H1 _ I1 q1) fun u s2 hh => ?_
  obtain ⟨g2, y, H2, I2, r2, i, j, rfl, rfl, q⟩ := hh
  obtain ⟨t1, rfl⟩ := r1
  obtain ⟨t2, rfl⟩ := r2
  exact lt_int (wpAny_truthy_bool ⟨g2.trans g1, H2, I2, q⟩)
/-- divmod(a, b), b positive -/
def rDivmod : List V → Hp → VK → Prop := fun xs H Q => ∃ i j, xs = [.int i, .int j] ∧ CDivP i j ∧ ∀ p, H p = none → Q (.ref p) (upd H p (.tup [.int (i / j), .int (i % j)]))
theorem cg_divmod : CallG X (.builtin "divmod") rDivmod := by
  intro pins s σ H xs us Q I r h
  obtain ⟨i, j, rfl, ⟨h1, h2⟩, q⟩ := h
  obtain ⟨u, w', rfl, ⟨t, rfl⟩, ⟨t', rfl⟩⟩ := vals2 r
  refine divmod_int (by omega) ?_ (.inl h2)
  rw [Int.fdiv_eq_ediv_of_nonneg i (by omega), Int.fmod_eq_emod_of_nonneg i (by omega)]
  have hn : H s.heap.objs.size = none := I.hok.fresh (Nat.le_refl _)
  refine ⟨rfl, .ref s.heap.objs.size, _, ?_, rfl, q _ hn⟩
  refine I.laid (fun b o e => Heap.get?_push_of_some _ e) (Nat.le_refl _) ⟨by simp only [List.length_cons, List.length_nil]; rw [sizeLine_eq]; decide, [.int (i / j) s.toks, .int (i % j) (s.toks + 1)], .cons ⟨_, rfl⟩ (.cons ⟨_, rfl⟩ .nil), ?_⟩
  exact ⟨_, Heap.get?_push_size s.heap rfl, rfl, 0, rfl⟩
/-! ### targets -/
structure GGs (X : Cx) (es : List Expr) (t : TGs) : Prop where
  run : ∀ (pins : List (Addr × Obj)) (s : Shared) (σ : L2.St) (H : Hp) (vs : List V) (us : List Value) (Q : L2.St → Hp → Prop), Inv X pins σ H s → Vals vs us → t vs σ H Q →
    wpAny (model X.prog X.w) X.A (assignInOrder ((assignEach es X.env).map (·.2)) us) (fun _ s' => s'.gens = s.gens ∧ ∃ σ' H', Inv X pins σ' H' s' ∧ Q σ' H') X.xe s
theorem ggs_nil : GGs X [] gNil := ⟨fun pins s σ H vs us Q I r h => by
  obtain ⟨e, q⟩ := h
  subst e
  cases r
  exact assignInOrder_nil ⟨rfl, σ, H, I, q⟩⟩
theorem ggs_cons {e : Expr} {es : List Expr} {t : TG} {u : TGs} (h1 : GG X e t) (h2 : GGs X es u)
    (hs : (assignEach (e :: es) X.env).map (·.2) = assign e X.env :: (assignEach es X.env).map (·.2) := by rfl) : GGs X (e :: es) (gCons t u) := by
  refine ⟨fun pins s σ H vs us Q I r h => ?_⟩
  obtain ⟨v, vr, e1, h⟩ := h
  subst e1
  cases r with
  | cons r rr =>
    rw [hs]
    refine assignInOrder_cons (thn (h1.run pins s σ H _ _ _ I r h) fun _ s1 hh => ?_)
    obtain ⟨g1, σ1, H1, I1, q1⟩ := hh
    exact thn (h2.run pins s1 σ1 H1 _ _ Q I1 rr q1) fun _ s2 ⟨g2, q2⟩ => ⟨g2.trans g1, q2⟩
theorem gg_tup {es : List Expr} {kk : Nat} {t : TGs} {n : Nat} {tpos : Pos} (hc : X.calm = true) (h : GGs X es t) (hn : (assignEach es X.env).length = n := by rfl) (hst : (assignEach es X.env).findIdx? (·.1) = none := by rfl) : GG X (.Tuple es kk tpos) (gTup X.K n t) := by
  refine ⟨fun pins s σ H v u Q I r hw => ?_⟩
  obtain ⟨a, xs, e1, hq, hl, hw⟩ := hw
  subst e1
  cases r
  obtain ⟨its, rv, ht, hz⟩ := I.tuple hq
  refine assign_Tuple_tuple (I.ok.hd hc) ht (by simp [hn, ← hl, rv.length]) hst fun h' hx => ?_
  have I1 : Inv X pins σ H { s with heap := h' } := I.kept (t' := s.toks) fun b o e => hx b o (Nat.ne_of_lt (Heap.lt_size e)) e
  exact h.run pins _ σ H xs _ Q I1 (by simpa using rv) hw
/-! ### statements -/
theorem gst_asg {tg e : Expr} {te : TE} {g : TG} {spos : Pos} (he : GE X e te) (hg : GG X tg g) (hs : swapsWithSole [tg] e spos.line X.env = pure false := by rfl) (hw : swappedStores [tg] e X.env = pure none := by rfl)
    (h1 : (assignEach [tg] X.env).map (·.2) = [assign tg X.env] := by rfl) : GSt X (.Assign [tg] e spos) (tAsg te g) := by
  refine ⟨fun pins s σ H D I h => ?_⟩
  refine wpAny_Assign_stores (thn (he.run pins s σ H _ I h) fun v s1 hh => ?_) hs hw
  obtain ⟨g1, x, H1, I1, r1, q1⟩ := hh
  rw [h1]
  exact thn (hg.run pins s1 σ H1 x v _ I1 r1 q1) fun _ s2 ⟨g2, q2⟩ => ⟨g2.trans g1, q2⟩
theorem gst_ret {e : Expr} {te : TE} {spos : Pos} (he : GE X e te) : GSt X (.Return (some e) spos) (tRet te) := by
  refine ⟨fun pins s σ H D I h => ?_⟩
  refine wpAny_Return_some (thn (he.run pins s σ H _ I h) fun v s1 hh => ?_)
  obtain ⟨g1, x, H1, I1, r1, q1⟩ := hh
  exact ⟨g1, x, σ, H1, I1, r1, q1⟩
/-- what is never reached -/
theorem gst_never {st : Stmt} : GSt X st fun _ _ _ => False := ⟨fun _ _ _ _ _ _ h => False.elim h⟩
/-- for a, b in enumerate(e): body -/
def tForEn (K : PySem.W.Frag) (te : TE) (g : TG) (tb : TS) : TS := fun D σ H => (tCons te tNil) σ H fun vs H1 => ∃ (a : Addr) (xs : List V), vs = [.ref a] ∧ SqL K H1 a xs ∧ ∃ Pv : Nat → L2.St → Hp → Prop, Pv 0 σ H1 ∧ (∀ i σ H, Pv i σ H → SqL K H a xs) ∧
  (∀ (i : Nat) (y : V) (σ : L2.St) (H : Hp) (T : Addr), xs[i]? = some y → Pv i σ H → H T = none → g (.ref T) σ (upd H T (.tup [.int (i : Int), y])) fun σ2 H2 => tb { nx := Pv (i + 1), ct := Pv (i + 1), bk := D.nx, rt := D.rt } σ2 H2) ∧ ∀ σ H, Pv xs.length σ H → D.nx σ H
theorem gst_forEn {K0 : PySem.W.Frag} {elts : List Expr} {kk : Nat} {tpos : Pos} {e : Expr} {te : TE} {g : TG} {tb : TS} {body : List Stmt} {p cpos spos : Pos} (hK : X.K = K0) (hc : X.calm = true) (own : PassesOwn (model X.prog X.w) X.A X.env X.xe) (hg : Gl X "enumerate") (hm : X.mg "enumerate" = none) (he : GE X e te) (hgt : GG X (.Tuple elts kk tpos) g) (hb : GSts X body tb)
    (hs : starEach [e] X.env = (false, eval e X.env) :: starEach [] X.env := by rfl) (hfs : ∀ y, foldedSetIterable (.Call (.Name "enumerate" p) [e] [] cpos) X.env y = pure y := by intro _; rfl) :
    GSt X (.For (.Tuple elts kk tpos) (.Call (.Name "enumerate" p) [e] [] cpos) body [] spos) (tForEn K0 te g tb) := by
  subst hK
  refine ⟨fun pins s σ H D I h => ?_⟩
  have ha : GA X [e] (tCons te tNil) := ga_cons (hs := hs) he ga_nil
  refine wpAny_For (Call_ (ld_blt I hg hm boot_enumerate (PyProof.Rows.callWith_type1 (thn (ha.run _ pins s σ H _ I h) fun us s1 hh => ?_) hs rfl))) hfs
  obtain ⟨g1, vs, H1, I1, r1, a, xs, ex, hq, Pv, p0, hl, turn, fin⟩ := hh
  subst ex
  obtain ⟨v0, rfl, rv0⟩ := r1.one
  cases rv0
  obtain ⟨its, rv, p', hz⟩ := I1.list hq
  refine call_enumerate_list p'.isList fun h' hen hit hsz hk => wpAny_pyIter_enum hen ?_
  have I2 : Inv X pins σ H1 { s1 with heap := h' } := I1.kept (t' := s1.toks) hk
  obtain ⟨en, een⟩ : ∃ en, en = s1.heap.objs.size + 1 := ⟨_, rfl⟩
  obtain ⟨it, eit⟩ : ∃ it, it = s1.heap.objs.size := ⟨_, rfl⟩
  have fresh : ∀ b ∈ [en, it], s1.heap.objs.size ≤ b := fun b hb => by
    have e' : b = en ∨ b = it := by simpa using hb
    rcases e' with z | z <;> omega
  have fpk : ∀ b ∈ [en, it], FpOk X pins H1 b := fun b hb => I1.fpOk (fresh b hb) (I1.hok.fresh (fresh b hb))
  have hne : en ≠ it := by omega
  rw [← een, ← eit] at hen
  rw [← eit] at hit
  rw [← een]
  refine codeAny_forLoop_any (fun n s' => ∃ i σ' H', n = xs.length - i ∧ i ≤ xs.length ∧ s'.gens = s.gens ∧ Inv X pins σ' H' s' ∧ (∃ old, IsEnum s'.heap en it (i : Int) old) ∧ s'.heap.IsListIter it a i ∧ (∀ b ∈ [en, it], H' b = none) ∧ Pv i σ' H') (fun n s' hs' => ?_) xs.length ⟨0, σ, H1, rfl, Nat.zero_le _, g1, I2, ⟨_, hen⟩, hit, fun b hb => (fpk b hb).1, p0⟩
  obtain ⟨i, σ', H', rfl, hi, g2, I', ⟨old, hen'⟩, hit', non, pv⟩ := hs'
  have fpk' : ∀ b ∈ [en, it], FpOk X pins H' b := fun b hb => ⟨non b hb, (fpk b hb).2⟩
  obtain ⟨its', rv', p2, hz'⟩ := I'.list (hl i σ' H' pv)
  have hlen := rv'.length
  by_cases lt : i < xs.length
  · obtain ⟨y, hy⟩ : ∃ y, xs[i]? = some y := ⟨_, List.getElem?_eq_getElem lt⟩
    obtain ⟨u, hu, ru⟩ := rv'.get hy
    have hel : en < s'.heap.objs.size := Heap.lt_size hen'
    have hil : it < s'.heap.objs.size := by
      obtain ⟨_, q, _⟩ := hit'
      exact Heap.lt_size q
    refine wpAny_pyNext_enum_item hen' hit' p2.isList (x := u) (by simpa using hu) hne fun h2 ho hit2 hT hsz2 hk2 => ?_
    refine wpAny_letOwnedTupleGo_enum (s := { s' with heap := h2, toks := s'.toks + 1 }) ho fun h3 hen3 sb => ?_
    have hT2 : h3.get? s'.heap.objs.size = some { cls := .type "tuple", data := .seq #[.int i s'.toks, u] } := (sb.2 _ (Nat.ne_of_gt hel)).trans hT
    have new : ObjOk X.prog X.w (upd H' s'.heap.objs.size (.tup [.int (i : Nat), y])) h3 s'.heap.objs.size (.tup [.int (i : Nat), y]) :=
      ⟨by show 2 ≤ sizeLine; rw [sizeLine_eq]; decide, [.int i s'.toks, u], .cons ⟨_, rfl⟩ (.cons ru .nil), ⟨_, hT2, rfl, _, rfl⟩⟩
    have I3 : Inv X pins σ' (upd H' s'.heap.objs.size (.tup [.int (i : Nat), y])) { s' with heap := h3, toks := s'.toks + 1 } :=
      I'.turnedNew (ch := [en, it]) (fun b ob hb q => (sb.2 b (fun z => hb (by simp [z]))).trans (hk2 b ob (fun z => hb (by simp [z])) (fun z => hb (by simp [z])) q)) fpk' (Nat.le_refl _) new
    have hit3 : h3.IsListIter it a (i + 1) := hit2.at fun o q => (sb.2 it (Ne.symm hne)).trans q
    have non3 : ∀ b ∈ [en, it], (upd H' s'.heap.objs.size (.tup [.int (i : Nat), y])) b = none := fun b hb => by
      have lb : b < s'.heap.objs.size := by
        have e' : b = en ∨ b = it := by simpa using hb
        rcases e' with z | z <;> omega
      rw [upd_ne (Nat.ne_of_lt lb)]
      exact non b hb
    obtain ⟨oi, eoi, ci, di⟩ := id hit3
    have I4 := I3.pinned (fp := [en, it]) (fun b hb => ⟨non3 b hb, (fpk b hb).2⟩) (fun b hb => by
      have e' : b = en ∨ b = it := by simpa using hb
      rcases e' with z | z
      · rw [z]
        exact ⟨_, hen3, fun v q => nomatch q⟩
      · rw [z]
        exact ⟨oi, eoi, fun v q => by rw [di] at q; cases q⟩)
    refine wpAny_passesOwn own (thn (hgt.run _ _ σ' _ (V.ref s'.heap.objs.size) _ _ I4 rfl (turn i y σ' H' _ hy pv (I'.hok.fresh (Nat.le_refl _)))) fun _ s4 h4 => ?_)
    obtain ⟨g4, σ4, H4, I4', q4⟩ := h4
    refine wpAny_passesOwn own (thn (hb.run _ s4 σ4 H4 _ I4' q4) fun fl s5 h5 => ?_)
    obtain ⟨g5, q5⟩ := h5
    have gg : s5.gens = s.gens := g5.trans (g4.trans g2)
    have again : ∀ σ5 H5, Inv X (pins ++ pinsAt [en, it] h3) σ5 H5 s5 → Pv (i + 1) σ5 H5 → ∃ m, m < xs.length - i ∧ ∃ i' σ' H', m = xs.length - i' ∧ i' ≤ xs.length ∧ s5.gens = s.gens ∧ Inv X pins σ' H' s5 ∧ (∃ old, IsEnum s5.heap en it (i' : Int) old) ∧ s5.heap.IsListIter it a i' ∧ (∀ b ∈ [en, it], H' b = none) ∧ Pv i' σ' H' := fun σ5 H5 I5 pv5 => by
      have pe := I5.pin (en, _) (List.mem_append_right _ (List.mem_append_right _ (mem_pinsAt (by simp) hen3)))
      have pi := I5.pin (it, _) (List.mem_append_right _ (List.mem_append_right _ (mem_pinsAt (by simp) eoi)))
      refine ⟨xs.length - (i + 1), by omega, i + 1, σ5, H5, rfl, lt, gg, I5.unpinned, ⟨u, ?_⟩, ⟨oi, pi.1, ci, di⟩, fun b hb => ?_, pv5⟩
      · have e1 : ((i + 1 : Nat) : Int) = (i : Int) + 1 := by omega
        rw [e1]
        exact pe.1
      · have e' : b = en ∨ b = it := by simpa using hb
        rcases e' with z | z
        · rw [z]
          exact pe.2.1
        · rw [z]
          exact pi.2.1
    match fl, q5 with
    | .next, ⟨σ5, H5, I5, pv5⟩ => exact again σ5 H5 I5 pv5
    | .cont, ⟨σ5, H5, I5, pv5⟩ => exact again σ5 H5 I5 pv5
    | .brk, ⟨σ5, H5, I5, qd⟩ => exact ⟨gg, σ5, H5, I5.unpinned, qd⟩
    | .ret v, ⟨x5, σ5, H5, I5, rv5, qd⟩ => exact ⟨gg, x5, σ5, H5, I5.unpinned, rv5, qd⟩
  · obtain rfl : i = xs.length := by omega
    refine wpAny_pyNext_enum_end (I'.ok.hd hc) hen' hit' p2.isList (by simp; omega) fun h2 eb => ?_
    obtain ⟨f0, f1, f2, f3, f4, f5⟩ := fpk' it (by simp)
    have I3 : Inv X pins σ' H' { s' with heap := h2 } := I'.turned (t' := s'.toks) (fun b o hb q => eb b o hb q) f0 f1 f3 f4 f5
    exact wpAny_execs_nil ⟨g2, σ', H', I3, fin σ' H' pv⟩
end
end Sq
set_option Elab.async false
set_option linter.all false
set_option maxRecDepth 100000
set_option maxHeartbeats 2000000
/-! A generator that keeps all objects but its own, whoever wakes it; its one list of ints lies at al. -/
namespace Sq
open PySem PySem.Spec PyProof.Rows L2 GenW
def alH (al : Addr) (ns : List Int) : Hp := fun b => if b = al then some (.lst (ns.map V.int)) else none
theorem alH_at {al : Addr} {ns : List Int} : alH al ns al = some (.lst (ns.map V.int)) := if_pos rfl
theorem alH_ne {al b : Addr} {ns : List Int} (h : b ≠ al) : alH al ns b = none := if_neg h
/-- what the generator alone changes -/
def Mine (h : Heap) (n0 a al : Addr) (b : Addr) : Prop := b = n0 ∨ (a < b ∧ ∃ j, h.IsListIter b al j)
open Classical in
noncomputable def hxH (h : Heap) (n0 a al : Addr) (ns : List Int) : Hp := fun b => if b = al then some (.lst (ns.map V.int)) else if n0 ≤ b ∧ b ≠ a ∧ ¬ Mine h n0 a al b then (h.get? b).map (HidO b) else none
structure Xg where
  P : Program
  w : World
  K : PySem.W.Frag
  mg : Str → Option Value
  base : Heap
  N : List Str
  qual : Str
  scope : Scope
  f : Addr
  cd : Value
  A : Around
  outer : List Env
  n0 : Addr
  a : Addr
  go : Obj
  g : Nat
  al : Addr
  ns : List Int
  tot : Nat
  val : Nat → Int
noncomputable abbrev Xg.hx (G : Xg) (s : Shared) : Hp := hxH s.heap G.n0 G.a G.al G.ns
noncomputable abbrev Xg.cx (G : Xg) (s : Shared) : Cx := lcx G.P G.w G.K G.mg G.base G.N G.qual G.scope G.f G.cd G.A G.outer G.n0 (cutSh s G.n0) (G.hx s) E0 [(G.a, G.go)]
abbrev Xg.md (G : Xg) : Model := model G.P G.w
abbrev Xg.E0 (G : Xg) (s : Shared) : Prop := Env0 G.P G.w G.K G.mg G.base G.A G.outer s (alH G.al G.ns)
structure Xg.Ok (G : Xg) : Prop where
  low : ∀ b ∈ frs G.outer, b < G.n0
  alow : G.al < G.n0
  na : G.n0 < G.a
  bsz : G.base.objs.size ≤ G.n0
  nocell : ∀ x c, (cellsFrom (G.n0 + 1) G.scope.names []).lookup x ≠ some c
  isG : ∀ h : Heap, h.get? G.a = some G.go → h.IsGen G.a G.g
structure KeepX (G : Xg) (s₀ s : Shared) : Prop where
  os : s.os = s₀.os
  gens : s.gens = s₀.gens
  bare : AllBare s.gens
  keep : ∀ b o, s₀.heap.get? b = some o → b ∉ frs G.outer → ¬ Mine s₀.heap G.n0 G.a G.al b → b ≠ G.al → s.heap.get? b = some o
  slot : ∀ b o, s₀.heap.get? b = some o → b ∈ frs G.outer → ∃ sl, s.heap.get? b = some { o with slots := sl }
  lst : HOk G.P G.w (alH G.al G.ns) s.heap
  there : ∃ o es ep, s.heap.get? G.n0 = some o ∧ o.data = .dict es ep
def Xg.Y (G : Xg) : Protocol := fun n s₀ v s kap => ∃ i, n + 1 + i = G.tot ∧ (∃ t, v = .int (G.val i) t) ∧ KeepX G s₀ s ∧
  ∀ s2, G.E0 s2 → (∀ b o, (b = G.a ∨ Mine s.heap G.n0 G.a G.al b) → s.heap.get? b = some o → s2.heap.get? b = some o) → kap (.send .none) s2
def Xg.R (G : Xg) : GenEnd := fun n s₀ r s => (r = .ok (.ret .none) ∨ r = .ok .next) ∧ n = 0 ∧ KeepX G s₀ s
section
variable {G : Xg} {ip : List (Addr × Obj)} {σ : L2.St} {H : Hp} {s s₀ s2 : Shared}
theorem hx_al {G : Xg} {s : Shared} : G.hx s G.al = some (.lst (G.ns.map V.int)) := if_pos rfl
theorem hx_mine {b : Addr} (hb : b ≠ G.al) (m : b = G.a ∨ Mine s.heap G.n0 G.a G.al b ∨ b < G.n0) : G.hx s b = none := by
  show hxH _ _ _ _ _ b = none
  unfold hxH
  rw [if_neg hb, if_neg]
  rintro ⟨h1, h2, h3⟩
  rcases m with m | m | m
  · exact h2 m
  · exact h3 m
  · exact absurd m (Nat.not_lt_of_le h1)
theorem hx_hid {b : Addr} {o : Obj} (hb : b ≠ G.al) (h1 : G.n0 ≤ b) (h2 : b ≠ G.a) (h3 : ¬ Mine s.heap G.n0 G.a G.al b) (e : s.heap.get? b = some o) : G.hx s b = some (HidO b o) := by
  show hxH _ _ _ _ _ b = _
  unfold hxH
  rw [if_neg hb, if_pos ⟨h1, h2, h3⟩, e]
  rfl
theorem hx_ok (e : G.E0 s) : HOk G.P G.w (G.hx s) s.heap := fun b u q => by
  by_cases hb : b = G.al
  · subst hb
    rw [hx_al] at q
    cases q
    refine (e.hok G.al _ alH_at).stay (fun _ _ _ z => z) (fun c z => ?_) fun c xs z => ?_
    · by_cases hc : c = G.al
      · subst hc
        rw [alH_at] at z
        cases z
      · rw [alH_ne hc] at z
        cases z
    · by_cases hc : c = G.al
      · subst hc
        rw [alH_at] at z
        cases z
      · rw [alH_ne hc] at z
        cases z
  · have q : hxH s.heap G.n0 G.a G.al G.ns b = some u := q
    unfold hxH at q
    rw [if_neg hb] at q
    split at q
    · cases r : s.heap.get? b with
      | none => rw [r] at q; cases q
      | some o =>
        rw [r] at q
        cases q
        exact ⟨r, ⟨o, r⟩, fun h1 h2 a k => k o a⟩
    · cases q
/-- the generator, where it is woken -/
theorem wake_in (ok : G.Ok) (I : Inv (G.cx s₀) ip σ H s) (hip : ∀ p ∈ ip, Mine s.heap G.n0 G.a G.al p.1) (e : G.E0 s2) (own : ∀ b o, (b = G.a ∨ Mine s.heap G.n0 G.a G.al b) → s.heap.get? b = some o → s2.heap.get? b = some o) : Inv (G.cx s2) ip σ (G.hx s2) s2 := by
  have mine2 : ∀ b, Mine s.heap G.n0 G.a G.al b → Mine s2.heap G.n0 G.a G.al b := fun b m => by
    rcases m with m | ⟨h1, j, h2⟩
    · exact .inl m
    · refine .inr ⟨h1, j, ?_⟩
      obtain ⟨o, eo, r⟩ := h2
      exact ⟨o, own b o (.inr (.inr ⟨h1, j, o, eo, r⟩)) eo, r⟩
  have low : ∀ {b : Addr}, b < G.n0 → b ≠ G.al → G.hx s2 b = none := fun {b} lt ne => hx_mine ne (.inr (.inr lt))
  have noC : ∀ {p : Prop} x c, (G.cx s₀).env.cells.lookup x = some c → p := fun x c q => absurd q (ok.nocell x c)
  refine ⟨⟨I.ok.mod, I.ok.kind, I.ok.glob, I.ok.blt, ?_, I.ok.inj, I.ok.has, fun x k h q => noC x k q, I.ok.hd, I.ok.frames, I.ok.stk, fun b z => absurd z List.not_mem_nil, fun b o q => ?_, ?_, fun b o q => List.not_mem_nil, fun b z => absurd z List.not_mem_nil, frames_cut e.funs ok.low, fun b hb => ?_⟩,
    rfl, e.bare, Un.kept fun b u q => (cutH_get.mp q).2, ?_, fun x k q => noC x k q, ?_, fun x k q => noC x k q, fun p hp => ?_, hx_ok e, I.len⟩
  · show (cutH s2.heap G.n0).objs.size ≤ G.n0
    rw [cutH_size]
    exact Nat.min_le_left _ _
  · obtain ⟨h1, h2⟩ := e.bs b o q
    have lt : b < G.n0 := Nat.lt_of_lt_of_le (Heap.lt_size q) ok.bsz
    refine ⟨cutH_get.mpr ⟨lt, h1⟩, low lt fun z => ?_⟩
    rw [z, alH_at] at h2
    cases h2
  · show G.base.objs.size ≤ (cutH s2.heap G.n0).objs.size
    rw [cutH_size]
    exact Nat.le_min.mpr ⟨ok.bsz, e.bsz⟩
  · refine low (ok.low b hb) fun z => ?_
    have := e.frf b hb
    rw [z, alH_at] at this
    cases this
  · obtain ⟨m, ⟨o, es, ep, ho, r⟩, hl⟩ := I.loc
    refine ⟨m, ⟨o, es, ep, own _ _ (.inr (.inl rfl)) ho, r⟩, fun i x v h1 h2 h3 => ?_⟩
    obtain ⟨u, rv, lk⟩ := hl i x v h1 h2 h3
    refine ⟨u, rv, ?_⟩
    rcases lk with z | ⟨kd, k, q, _⟩
    · exact .inl z
    · exact noC x k q
  · exact hx_mine (Nat.ne_of_gt ok.alow) (.inr (.inl (.inl rfl)))
  · obtain ⟨h1, _, h3, h4, h5⟩ := I.pin p hp
    rcases List.mem_append.mp hp with z | z
    · rw [List.mem_singleton.mp z] at h1 h3 h4 h5 ⊢
      exact ⟨own _ _ (.inl rfl) h1, hx_mine (fun z => absurd (z ▸ Nat.lt_trans ok.alow ok.na) (Nat.lt_irrefl _)) (.inl rfl), h3, h4, h5⟩
    · have m := hip p z
      refine ⟨own _ _ (.inr m) h1, hx_mine (fun z => ?_) (.inr (.inl (mine2 _ m))), h3, h4, h5⟩
      have h1 := ok.alow
      rcases m with m | ⟨m, _⟩
      · rw [z] at m
        exact absurd (m ▸ h1) (Nat.lt_irrefl _)
      · rw [z] at m
        exact absurd (Nat.lt_trans m (Nat.lt_trans h1 ok.na)) (Nat.lt_irrefl _)
/-- what a turn keeps -/
theorem keepx_of (ok : G.Ok) (e0 : G.E0 s₀) (I : Inv (G.cx s₀) ip σ H s) (sm : Same (G.hx s₀) H) (gens : s.gens = s₀.gens) (hgo : s₀.heap.get? G.a = some G.go) : KeepX G s₀ s := by
  refine ⟨I.os, gens, I.bare, fun b o q nf nm na => ?_, fun b o q hf => ?_, fun b u q => ?_, ?_⟩
  · by_cases lt : b < G.n0
    · exact I.base.keep b o (cutH_get.mpr ⟨lt, q⟩) (hx_mine na (.inr (.inr lt))) nf List.not_mem_nil
    · by_cases ba : b = G.a
      · subst ba
        rw [hgo] at q
        cases q
        exact (I.pin (G.a, G.go) (List.mem_append_left _ (List.mem_singleton.mpr rfl))).1
      · exact (I.hok b _ (sm _ _ (hx_hid na (Nat.le_of_not_lt lt) ba nm q))).1
  · have lt := ok.low b hf
    refine I.base.slot b o (cutH_get.mpr ⟨lt, q⟩) (hx_mine (fun z => ?_) (.inr (.inr lt))) hf List.not_mem_nil
    have := e0.frf b hf
    rw [z, alH_at] at this
    cases this
  · by_cases hb : b = G.al
    · subst hb
      rw [alH_at] at q
      cases q
      obtain ⟨z, its, n, r, eo⟩ := I.hok G.al _ (sm _ _ hx_al)
      exact ⟨z, its, n, r, eo⟩
    · rw [alH_ne hb] at q
      cases q
  · obtain ⟨m, ⟨o, es, ep, ho, r⟩, hl⟩ := I.loc
    exact ⟨o, es, ep, ho, r.1⟩
end
end Sq
set_option Elab.async false
set_option linter.all false
set_option maxRecDepth 100000
set_option maxHeartbeats 2000000
namespace Sq
open PySem PySem.Spec PyProof.Rows L2 GenW
abbrev Xg.env (G : Xg) : Env := envOfC G.qual G.scope G.n0 G.f G.cd
structure Xg.GC (G : Xg) (ip : List (Addr × Obj)) (c : Code) (fs : List Frame) (gd : Bool → Bool) : Prop where
  over : G.A.over c fs = G.A.deeper G.env
  split : splitAtGen fs = none
  guard : fs.any Frame.guarded = false
  gd : gd false = false
  low : ∀ p ∈ ip, G.a < p.1 ∧ ∀ h : Heap, h.get? p.1 = some p.2 → ∃ j, h.IsListIter p.1 G.al j
def Xg.Seat (G : Xg) (s₀ : Shared) : Prop := G.E0 s₀ ∧ s₀.heap.get? G.a = some G.go
structure Xg.GK (G : Xg) (ip : List (Addr × Obj)) (c : Code) (fs : List Frame) (Kf : Flow → Sem PySem.Fin) (Je : Value → Sem PySem.Fin) (D : GEndL) : Prop where
  ok : ∀ (n i : Nat) (s₀ s : Shared) (fl : Flow), n + i = G.tot → G.Seat s₀ → s.gens = s₀.gens → SP (G.cx s₀) ip (D.at i (G.hx s₀)) fl s → Seg G.md G.A G.R G.Y n s₀ c (Kf fl) fs s
  exc : ∀ (n : Nat) (s₀ : Shared) (e : Value) (s : Shared), G.Seat s₀ → (G.cx s₀).xe e s → Seg G.md G.A G.R G.Y n s₀ c (Je e) fs s
structure XS (G : Xg) (st : Stmt) (t : TGL) : Prop where
  run : ∀ (ip : List (Addr × Obj)) (n i : Nat) (s₀ : Shared) (c : Code) (fs : List Frame) (Kf : Flow → Sem PySem.Fin) (Je : Value → Sem PySem.Fin) (gd : Bool → Bool) (lv : List Value → List Value) (s : Shared) (σ : L2.St) (H : Hp) (D : GEndL),
    G.GC ip c fs gd → n + i = G.tot → G.GK ip c fs Kf Je D → G.Seat s₀ → s.gens = s₀.gens → Inv (G.cx s₀) ip σ H s → t D i (G.hx s₀) σ H → Seg G.md G.A G.R G.Y n s₀ c ((exec st G.env).wrap Kf Je gd lv) fs s
structure XSs (G : Xg) (st : List Stmt) (t : TGL) : Prop where
  run : ∀ (ip : List (Addr × Obj)) (n i : Nat) (s₀ : Shared) (c : Code) (fs : List Frame) (Kf : Flow → Sem PySem.Fin) (Je : Value → Sem PySem.Fin) (gd : Bool → Bool) (lv : List Value → List Value) (s : Shared) (σ : L2.St) (H : Hp) (D : GEndL),
    G.GC ip c fs gd → n + i = G.tot → G.GK ip c fs Kf Je D → G.Seat s₀ → s.gens = s₀.gens → Inv (G.cx s₀) ip σ H s → t D i (G.hx s₀) σ H → Seg G.md G.A G.R G.Y n s₀ c ((execs st G.env).wrap Kf Je gd lv) fs s
section
variable {G : Xg} {st : Stmt} {rest : List Stmt}
theorem x_gst {t : TS} (h : ∀ s₀, GSt (G.cx s₀) st t) : XS G st (tLPlain t) := by
  refine ⟨fun ip n i s₀ c fs Kf Je gd lv s σ H D gc hn k seat hgs I ht => ?_⟩
  refine seg_wrap ?_
  rw [gc.over]
  exact wpAny_mono ((h s₀).run ip s σ H (D.at i (G.hx s₀)) I ht) (fun fl s' hs => k.ok n i s₀ s' fl hn seat (hs.1.trans hgs) hs.2) fun x s' hx => k.exc n s₀ x s' seat hx
theorem xs_nil : XSs G [] tL0 :=
  ⟨fun ip n i s₀ c fs Kf Je gd lv s σ H D gc hn k seat hgs I ht => seg_execs_nil (k.ok n i s₀ s .next hn seat hgs ⟨σ, H, I, ht⟩)⟩
theorem xs_cons {t u : TGL} (a : XS G st t) (b : XSs G rest u) : XSs G (st :: rest) (tLThen t u) := by
  refine ⟨fun ip n i s₀ c fs Kf Je gd lv s σ H D gc hn k seat hgs I ht => ?_⟩
  refine seg_execs_cons ?_
  refine a.run ip n i s₀ c fs _ Je gd lv s σ H { D with nx := fun i' Hb' σ' H' => u D i' Hb' σ' H' } gc hn ⟨fun n' i' s₀' s' fl hn' seat' hg' hs => ?_, k.exc⟩ seat hgs I ht
  match fl, hs with
  | .next, ⟨σ', H', I', q⟩ => exact b.run ip n' i' s₀' c fs Kf Je gd lv s' σ' H' D gc hn' k seat' hg' I' q
  | .brk, hs => exact k.ok n' i' s₀' s' .brk hn' seat' hg' hs
  | .cont, hs => exact k.ok n' i' s₀' s' .cont hn' seat' hg' hs
  | .ret u, hs => exact k.ok n' i' s₀' s' (.ret u) hn' seat' hg' hs
/-! ### yield -/
def tXYield (G : Xg) (te : TE) : TGL := fun D i Hb σ H => i < G.tot ∧ te σ H fun x H1 => x = .int (G.val i) ∧ Same Hb H1 ∧ ∀ Hb' : Hp, Hb' G.al = some (.lst (G.ns.map V.int)) → D.nx (i + 1) Hb' σ Hb'
theorem x_yield (ok : G.Ok) {e : Expr} {yp pos : Pos} {te : TE} (he : ∀ s₀, GE (G.cx s₀) e te) (hco : G.scope.isCoroutine = false) (hi : interactive G.env = false := by rfl) : XS G (.Expr (.Yield (some e) yp) pos) (tXYield G te) := by
  refine ⟨fun ip n i s₀ c fs Kf Je gd lv s σ H D gc hn k seat hgs I ht => ?_⟩
  obtain ⟨lt, ht⟩ := ht
  obtain ⟨n, rfl⟩ : ∃ m, n = m + 1 := ⟨n - 1, by omega⟩
  refine seg_Expr_Yield gc.split gc.gd gc.guard ?_ hco hi
  rw [gc.over]
  refine wpAny_mono ((he s₀).run ip s σ H _ I ht) (fun v s' hv => ?_) fun x s' hx => k.exc _ s₀ x s' seat hx
  obtain ⟨g1, x, H1, I1, rv, ex, sm, nx⟩ := hv
  subst ex
  intro kap hk
  refine ⟨i, hn, rv, keepx_of ok seat.1 I1 sm (g1.trans hgs) seat.2, fun s2 e2 own => hk .none s2 ?_⟩
  have m : ∀ p ∈ ip, Mine s'.heap G.n0 G.a G.al p.1 := fun p hp => by
    obtain ⟨h1, h2⟩ := gc.low p hp
    exact .inr ⟨h1, h2 _ (I1.pin p (List.mem_append_right _ hp)).1⟩
  have there := (I1.pin (G.a, G.go) (List.mem_append_left _ (List.mem_singleton.mpr rfl))).1
  exact k.ok n (i + 1) s2 s2 .next (by omega) ⟨e2, own _ _ (.inl rfl) there⟩ rfl ⟨σ, G.hx s2, wake_in ok I1 m e2 own, nx _ hx_al⟩
/-! ### for over the list -/
def tXFor (G : Xg) (te : TE) (g : TG) (tb : TGL) : TGL := fun D i Hb σ H => te σ H fun x H1 => x = .ref G.al ∧ ∃ Pv : Nat → Nat → Hp → L2.St → Hp → Prop, Pv 0 i Hb σ H1 ∧ (∀ j i Hb σ H, Pv j i Hb σ H → H G.al = some (.lst (G.ns.map V.int))) ∧
  (∀ j k i Hb σ H, G.ns[j]? = some k → Pv j i Hb σ H → g (.int k) σ H fun σ2 H2 => tb { D with nx := Pv (j + 1), ct := Pv (j + 1), bk := D.nx } i Hb σ2 H2) ∧ ∀ i Hb σ H, Pv G.ns.length i Hb σ H → D.nx i Hb σ H
theorem x_for (ok : G.Ok) {x : Str} {op : Pos} {iter : Expr} {body : List Stmt} {te : TE} {g : TG} {tb : TGL} {pos : Pos} (hcalm : (G.A.deeper G.env).handled = none) (he : ∀ s₀, GE (G.cx s₀) iter te) (hg : ∀ s₀, GG (G.cx s₀) (.Name x op) g) (hb : XSs G body tb)
    (hs : ∀ x, foldedSetIterable iter G.env x = pure x := by intro _; rfl) : XS G (.For (.Name x op) iter body [] pos) (tXFor G te g tb) := by
  refine ⟨fun ip n i s₀ c fs Kf Je gd lv s σ H D gc hn k seat hgs I ht => ?_⟩
  refine segFor ?_ hs
  rw [gc.over]
  refine wpAny_mono ((he s₀).run ip s σ H _ I ht) (fun v s1 h1 => ?_) fun x s' hx => k.exc n s₀ x s' seat hx
  obtain ⟨g1, y, H1, I1, rv, ey, Pv, p0, hal, turn, fin⟩ := h1
  subst ey
  obtain rfl : v = Value.ref G.al := rv
  obtain ⟨_, its0, _, rits0, hl0⟩ := I1.hok G.al _ (hal _ _ _ _ _ p0)
  have isl0 : s1.heap.IsList G.al its0.toArray := ⟨_, hl0, rfl, _, rfl⟩
  refine wpAny_pyIter_list isl0 ?_
  obtain ⟨it, eit⟩ : ∃ it, it = s1.heap.objs.size := ⟨_, rfl⟩
  rw [← eit]
  have young : G.n0 < it := by
    rw [eit]
    exact I1.lt
  have younga : G.a < it := by
    rw [eit]
    exact Heap.lt_size (I1.pin (G.a, G.go) (List.mem_append_left _ (List.mem_singleton.mpr rfl))).1
  have below : ∀ {b : Addr} {o : Obj}, s1.heap.get? b = some o → b ≠ it := fun e => by
    rw [eit]
    exact Nat.ne_of_lt (Heap.lt_size e)
  have kept : ∀ b o, s1.heap.get? b = some o → (s1.heap.push { cls := .type "list_iterator", data := .fields #[.ref G.al, .int 0 0] }).get? b = some o := fun b o e => Heap.get?_push_of_some _ e
  have I2 : Inv (G.cx s₀) ip σ H1 { s1 with heap := s1.heap.push { cls := .type "list_iterator", data := .fields #[.ref G.al, .int 0 0] } } := I1.kept (t' := s1.toks) kept
  have free : H1 it = none := by
    rw [eit]
    exact I1.hok.fresh (Nat.le_refl _)
  have nfs : it ∉ frs G.outer := fun m => absurd (Nat.lt_trans (ok.low it m) young) (Nat.lt_irrefl _)
  have npin : ∀ p ∈ [(G.a, G.go)] ++ ip, p.1 ≠ it := fun p hp => below (I1.pin p hp).1
  have is0 : (s1.heap.push { cls := .type "list_iterator", data := .fields #[.ref G.al, .int 0 0] }).IsListIter it G.al 0 := by
    rw [eit]
    exact ⟨_, Heap.get?_push_size _ rfl, rfl, rfl⟩
  intro p
  have over' : ∀ kk : Result → Sem PySem.Fin, G.A.over (.forLoop (.Name x op) (.ref it) body [] G.env) (.ret kk none (gd false) (lv []) c p [] :: fs) = G.A.deeper G.env := fun kk => (over_loop rfl rfl).trans gc.over
  have fpk : ∀ {s₀ : Shared} {H' : Hp}, H' it = none → FpOk (G.cx s₀) ip H' it := fun {s₀ H'} hn => by
    refine ⟨hn, Nat.ne_of_gt young, nfs, .inr ?_, fun x c e => absurd e (ok.nocell x c), npin⟩
    show (cutH s₀.heap G.n0).objs.size ≤ it
    rw [cutH_size]
    exact Nat.le_trans (Nat.min_le_left _ _) (Nat.le_of_lt young)
  have back : ∀ (n : Nat) (s₀ : Shared) (x : Value) (s' : Shared), G.Seat s₀ → cameBackBy G.md (G.A.deeper G.env) G.env (G.cx s₀).xe x s' → Seg G.md G.A G.R G.Y n s₀ c (((Sem.raise x : Sem Flow).onRaise (cameBack G.env)).wrap Kf Je gd lv) fs s' := fun n s₀ x s' seat h => by
    show Seg _ _ _ _ _ _ _ (((cameBack G.env x).bind fun _ => (Sem.raise x : Sem Flow)).wrap Kf Je gd lv) _ _
    rw [Sem.bind_eq_wrap, Sem.wrap_wrap]
    refine seg_wrap ?_
    rw [gc.over]
    exact wpAny_mono h (fun _ s' hx => k.exc n s₀ x s' seat hx) fun y s' hx => k.exc n s₀ y s' seat hx
  have ee : ∀ (n : Nat) (s₀ : Shared) (y : Value) (s' : Shared), G.Seat s₀ → (G.cx s₀).xe y s' → Seg G.md G.A G.R G.Y n s₀ (.forLoop (.Name x op) (.ref it) body [] G.env)
      ((do noteFrame y G.env; theTreesLotGoes y : Sem Unit).wrap (fun _ => .raise y) .raise id id)
      (.ret (fun r => ((match r with | .ok f => (.pure f : Sem Flow) | .error e => .raise e).onRaise (cameBack G.env)).wrap Kf Je gd lv) none (gd false) (lv []) c p [] :: fs) s' := fun n s₀ y s' seat hx => by
    refine seg_wrap ?_
    rw [over']
    refine wpAny_bind (wpAny_mono (owns_lcx y s' hx) (fun _ s'' hcb => wpAny_theTreesLotGoes ?_) fun y s'' hcb => ?_)
    · exact seg_leaf (.error y) (back n s₀ y s'' seat hcb)
    · exact seg_leaf (.error _) (back n s₀ _ s'' seat hcb)
  have loop : ∀ (m j n i : Nat) (s₀ s : Shared) (σ : L2.St) (H : Hp), j + m = G.ns.length → n + i = G.tot → Pv j i (G.hx s₀) σ H → s.heap.IsListIter it G.al j → H it = none → G.Seat s₀ → s.gens = s₀.gens → Inv (G.cx s₀) ip σ H s →
      Seg G.md G.A G.R G.Y n s₀ (.forLoop (.Name x op) (.ref it) body [] G.env) (G.md.den (.forLoop (.Name x op) (.ref it) body [] G.env))
        (.ret (fun r => ((match r with | .ok f => (.pure f : Sem Flow) | .error e => .raise e).onRaise (cameBack G.env)).wrap Kf Je gd lv) none (gd false) (lv []) c p [] :: fs) s := by
    intro m
    induction m with
    | zero =>
      intro j n i s₀ s σ H hj hn pv st fr seat hgs I
      obtain rfl : j = G.ns.length := by omega
      obtain ⟨_, its, _, rits, hl⟩ := I.hok G.al _ (hal _ _ _ _ _ pv)
      have isl : s.heap.IsList G.al its.toArray := ⟨_, hl, rfl, _, rfl⟩
      have hlen := rits.length
      rw [List.length_map] at hlen
      refine segForLoop ?_
      rw [over']
      refine wpAny_pyNext_list_end hcalm st isl (by simp; omega) fun h' eb => ?_
      obtain ⟨f0, f1, f2, f3, f4, f5⟩ := fpk (s₀ := s₀) fr
      have I4 : Inv (G.cx s₀) ip σ H { s with heap := h' } := I.turned (t' := s.toks) (fun b o hb e => eb b o hb e) f0 f1 f3 f4 f5
      refine seg_again rfl (segBlockNil ?_)
      exact seg_leaf (.ok .next) (k.ok n i s₀ _ .next hn seat hgs ⟨σ, H, I4, fin i _ σ H pv⟩)
    | succ m ih =>
      intro j n i s₀ s σ H hj hn pv st fr seat hgs I
      have lt : j < G.ns.length := by omega
      obtain ⟨kk, hkk⟩ : ∃ kk, G.ns[j]? = some kk := ⟨_, List.getElem?_eq_getElem lt⟩
      obtain ⟨_, its, _, rits, hl⟩ := I.hok G.al _ (hal _ _ _ _ _ pv)
      have isl : s.heap.IsList G.al its.toArray := ⟨_, hl, rfl, _, rfl⟩
      obtain ⟨u, hu, ru⟩ := rits.get (show (G.ns.map V.int)[j]? = some (V.int kk) by rw [List.getElem?_map, hkk]; rfl)
      refine segForLoop ?_
      rw [over']
      refine wpAny_pyNext_list_item st isl (x := u) (by simpa using hu) fun h' st' sb => ?_
      obtain ⟨f0, f1, f2, f3, f4, f5⟩ := fpk (s₀ := s₀) fr
      have I4 : Inv (G.cx s₀) ip σ H { s with heap := h' } := I.turned (t' := s.toks) (fun b o hb e => (sb.2 b hb).trans e) f0 f1 f3 f4 f5
      obtain ⟨oi, eoi, ci, di⟩ := id st'
      refine go_of (s := { s with heap := h' }) eoi ci di (by decide) ?_
      have I5 : Inv (G.cx s₀) (ip ++ [(it, oi)]) σ H { s with heap := h' } := I4.pins_of fun q hq => by
        rcases List.mem_append.mp hq with z | z
        · exact I4.pin q (List.mem_append_right _ z)
        · rw [List.mem_singleton.mp z]
          exact ⟨eoi, fr, Nat.ne_of_gt young, nfs, fun v q => by rw [di] at q; cases q⟩
      refine wpAny_mono ((hg s₀).run _ _ σ H (V.int kk) u _ I5 ru (turn j kk i _ σ H hkk pv)) (fun _ s6 hh => ?_) fun x s' hx => ee n s₀ x s' seat hx
      obtain ⟨g6, σ6, H6, I6, q6⟩ := hh
      have gm : G.GC (ip ++ [(it, oi)]) (.forLoop (.Name x op) (.ref it) body [] G.env) (.ret (fun r => ((match r with | .ok f => (.pure f : Sem Flow) | .error e => .raise e).onRaise (cameBack G.env)).wrap Kf Je gd lv) none (gd false) (lv []) c p [] :: fs) id := by
        refine ⟨over' _, ?_, ?_, rfl, fun q hq => ?_⟩
        · show (splitAtGen fs).map _ = none
          rw [gc.split]
          rfl
        · show (gd false || fs.any Frame.guarded) = false
          rw [gc.gd, gc.guard]
          rfl
        · rcases List.mem_append.mp hq with z | z
          · exact gc.low q z
          · rw [List.mem_singleton.mp z]
            exact ⟨younga, fun h e => ⟨(j + 1 : Nat), oi, e, ci, di⟩⟩
      have again : ∀ {n' i' : Nat} {s₀' s7 : Shared} {σ7 : L2.St} {H7 : Hp}, n' + i' = G.tot → G.Seat s₀' → s7.gens = s₀'.gens → Inv (G.cx s₀') (ip ++ [(it, oi)]) σ7 H7 s7 → Pv (j + 1) i' (G.hx s₀') σ7 H7 →
          Seg G.md G.A G.R G.Y n' s₀' (.forLoop (.Name x op) (.ref it) body [] G.env) (.pure (.again (.forLoop (.Name x op) (.ref it) body [] G.env)))
            (.ret (fun r => ((match r with | .ok f => (.pure f : Sem Flow) | .error e => .raise e).onRaise (cameBack G.env)).wrap Kf Je gd lv) none (gd false) (lv []) c p [] :: fs) s7 := fun {n' i' s₀' s7 σ7 H7} hn' seat' hg' I7 pv7 => by
        have z := I7.pin (it, oi) (List.mem_append_right _ (List.mem_append_right _ (List.mem_singleton.mpr rfl)))
        exact seg_again rfl (ih (j + 1) n' i' s₀' s7 σ7 H7 (by omega) hn' pv7 ⟨oi, z.1, ci, di⟩ z.2.1 seat' hg' I7.unpinned)
      refine hb.run (ip ++ [(it, oi)]) n i s₀ _ _ _ _ id id s6 σ6 H6 { D with nx := Pv (j + 1), ct := Pv (j + 1), bk := D.nx } gm hn ⟨fun n' i' s₀' s3 fl hn' seat' hg' hs => ?_, fun n' s₀' x s3 seat' hx => ee n' s₀' x s3 seat' hx⟩ seat (g6.trans hgs) I6 q6
      match fl, hs with
      | .next, ⟨σ3, H3, I3, n3⟩ => exact again hn' seat' hg' I3 n3
      | .cont, ⟨σ3, H3, I3, n3⟩ => exact again hn' seat' hg' I3 n3
      | .brk, ⟨σ3, H3, I3, n3⟩ => exact seg_leaf (.ok .next) (k.ok n' i' s₀' s3 .next hn' seat' hg' ⟨σ3, H3, I3.unpinned, n3⟩)
      | .ret v, ⟨x3, σ3, H3, I3, r3, n3⟩ => exact seg_leaf (.ok (.ret v)) (k.ok n' i' s₀' s3 (.ret v) hn' seat' hg' ⟨x3, σ3, H3, I3.unpinned, r3, n3⟩)
  exact loop G.ns.length 0 n i s₀ _ σ H1 (Nat.zero_add _) hn p0 is0 free seat (g1.trans hgs) I2
end
end Sq
set_option Elab.async false
set_option linter.all false
set_option maxRecDepth 100000
set_option maxHeartbeats 2000000
namespace Sq
open PySem PySem.Spec PyProof.Rows L2 GenW
abbrev SpX := List V → Addr → List Int → Nat → (Nat → Int) → Prop
/-- what a call gives: a generator that has not begun, of the Xg that its waker chooses -/
def XMade (P : Program) (w : World) (K : PySem.W.Frag) (mg : Str → Option Value) (base : Heap) (k : Nat) (outer : List Env) (s : Shared) (al : Addr) (ns : List Int) (tot : Nat) (val : Nat → Int) (u : Value) (s' : Shared) : Prop :=
  ∃ (a : Addr) (code : Code), u = .ref a ∧ s.heap.objs.size < a ∧ s'.heap.IsGen a s.gens.size ∧ s'.gens = s.gens.push (.fresh code) ∧ s'.os = s.os ∧ s'.heap.NoLimit ∧ (∀ b o, s.heap.get? b = some o → s'.heap.get? b = some o) ∧ (∃ o es ep, s'.heap.get? s.heap.objs.size = some o ∧ o.data = .dict es ep) ∧ (GenState.fresh code).bare = true ∧ s'.heap.objs.size = a + 1 ∧
    ∀ (A : Around), Room k A → A.frames = some outer →
      ∃ G : Xg, G.Ok ∧ G.P = P ∧ G.w = w ∧ G.K = K ∧ G.mg = mg ∧ G.base = base ∧ G.A = A ∧ G.outer = outer ∧ G.n0 = s.heap.objs.size ∧ G.a = a ∧ G.g = s.gens.size ∧ G.al = al ∧ G.ns = ns ∧ G.tot = tot ∧ G.val = val ∧ ∀ s2, G.E0 s2 → (∀ b o, (b = a ∨ Mine s'.heap s.heap.objs.size a al b) → s'.heap.get? b = some o → s2.heap.get? b = some o) → Seg G.md G.A G.R G.Y G.tot s2 code (G.md.den code) [] s2
structure GFnX (P : Program) (w : World) (K : PySem.W.Frag) (mg : Str → Option Value) (base : Heap) (k : Nat) (f : Addr) (fd : FuncData) (ps : List Str) (sp : SpX) : Prop where
  len : ∀ vs al ns tot val, sp vs al ns tot val → vs.length = ps.length
  run : ∀ (A : Around) (outer : List Env) (s : Shared) (args : Args) (us : List Value) (vs : List V) (al : Addr) (ns : List Int) (tot : Nat) (val : Nat → Int), Room k A → Env0 P w K mg base A outer s (alH al ns) → BindsTo s fd args (ps.zip us) → Vals vs us → sp vs al ns tot val →
    codeAny (model P w) A (.call (.ref f) args) (fun r s' => match r with | .ok (.ret u) => XMade P w K mg base k outer s al ns tot val u s' | _ => False) s
theorem hx_start {G : Xg} {s : Shared} (h : G.n0 = s.heap.objs.size) : G.hx s = alH G.al G.ns := by
  funext b
  show hxH _ _ _ _ _ b = _
  unfold hxH alH
  by_cases hb : b = G.al
  · rw [if_pos hb, if_pos hb]
  · rw [if_neg hb, if_neg hb]
    split
    · rename_i c
      cases e : s.heap.get? b with
      | none => rfl
      | some o =>
        have := Heap.lt_size e
        rw [← h] at this
        exact absurd this (Nat.not_lt_of_le c.1)
    · rfl
theorem xfn_of {P : Program} {w : World} {K : PySem.W.Frag} {mg : Str → Option Value} {base : Heap} {k : Nat} {f : Addr} {name qual : Str} {params : Arguments} {body : List Stmt} {scope : Scope} {dV kV doc pm cdv ct oc : Value} {an od : Option Addr}
    {osl : Array (Option Value)} {N ps : List Str} {sp : SpX} (found : K.lookup f = some ⟨oc, od, .func (PySem.W.fnOf name qual params body scope dV kV doc pm an cdv ct), osl⟩) (coded : PySem.W.codeIn K cdv qual = true) (S : GScope N ps scope)
    (nocell : ∀ n x c, (cellsFrom n scope.names []).lookup x ≠ some c) (len : ∀ vs al ns tot val, sp vs al ns tot val → vs.length = ps.length)
    (inner : ∀ (A : Around) (outer : List Env) (n0 a : Addr) (go : Obj) (g : Nat) (al : Addr) (ns : List Int) (tot : Nat) (val : Nat → Int) (vs : List V), Xg.Ok ⟨P, w, K, mg, base, N, qual, scope, f, cdv, A, outer, n0, a, go, g, al, ns, tot, val⟩ → Room k (A.deeper (envOfC qual scope n0 f cdv)) → sp vs al ns tot val →
      ∃ t, XSs ⟨P, w, K, mg, base, N, qual, scope, f, cdv, A, outer, n0, a, go, g, al, ns, tot, val⟩ body t ∧ ∀ Hb : Hp, Hb al = some (.lst (ns.map V.int)) → t { nx := fun i Hb _ H => i = tot ∧ Same Hb H, rt := fun _ _ _ _ => False } 0 Hb (start N vs) Hb) :
    GFnX P w K mg base (k + 1) f (PySem.W.fnOf name qual params body scope dV kV doc pm an cdv ct) ps sp := by
  refine ⟨len, fun A outer s args us vs al ns tot val room e0 bound rel wish => ?_⟩
  have few := len _ _ _ _ _ wish
  have inK : K.In s.heap := e0.mod.kin.keeps fun b o e => (e0.bs b o e).1
  have noLim : s.heap.NoLimit := e0.mod.nolimit.keeps fun b o e => (e0.bs b o e).1
  have kinds : ∀ y ∈ ps.zip us, scope.names.lookup y.1 = some .local ∨ (scope.names.lookup y.1 = some .cell ∧ ((cellsFrom (s.heap.objs.size + 1) scope.names []).lookup y.1).isSome = true) := fun ⟨n, v⟩ hy =>
    (S.par n (List.of_mem_zip hy).1).elim .inl fun z => .inr ⟨z, PySem.W.cellsFrom_some _ _ _ (.inl z)⟩
  refine codeAny_call_generator room.depth (inK _ _ found) rfl S.co S.gen rfl (PySem.W.codeRec_of inK coded) (bound _ _ _ _ ?_)
  refine wpAny_newFunctionEnv_cells S.kind kinds fun env he s1 made => ?_
  subst he
  have lim1 : s1.heap.NoLimit := noLim.keeps made.toInCall.keep
  refine ⟨lim1, ?_⟩
  obtain ⟨h1, tk, es1, keep1⟩ := made.done
  have os1 : s1.os = s.os := by rw [es1]
  have gen1 : s1.gens = s.gens := by rw [es1]
  have lt1 : s.heap.objs.size < s1.heap.objs.size := made.toInCall.ns.lt
  have keepS : ∀ b o, s.heap.get? b = some o → s1.heap.get? b = some o := made.toInCall.keep
  suffices main : ∀ (go : Obj) (nm qn : Value) (tk2 : Nat), go.cls = .type "generator" → go.data = .fields #[.int s1.gens.size 0, nm, qn] → go.slots = #[] → (∀ h : Heap, (h.push go).get? h.objs.size = some go) →
      XMade P w K mg base (k + 1) outer s al ns tot val (.ref s1.heap.objs.size) { s1 with gens := s1.gens.push (.fresh (.func body (envOfC qual scope s.heap.objs.size f cdv))), toks := tk2, heap := s1.heap.push go } from
    main _ _ _ _ rfl rfl rfl fun h => Heap.get?_push_size _ rfl
  intro go nm qn tk2 isG dataG slotsG pushG
  have isGen : ∀ h : Heap, h.get? s1.heap.objs.size = some go → h.IsGen s1.heap.objs.size s.gens.size := fun h e => ⟨go, nm, qn, e, isG, by rw [dataG, gen1], slotsG⟩
  have ns1 := made.toInCall.ns
  refine ⟨s1.heap.objs.size, _, rfl, lt1, isGen _ (pushG _), by rw [← gen1], os1, lim1.keeps fun b o e => Heap.get?_push_of_some _ e, fun b o e => Heap.get?_push_of_some _ (keepS b o e), ?_, rfl, Heap.size_push .., ?_⟩
  · obtain ⟨o, es, ep, ho, r⟩ := id ns1
    exact ⟨o, es, ep, Heap.get?_push_of_some _ ho, r.1⟩
  · intro Aw roomW framesW
    obtain ⟨G, eG⟩ : ∃ G : Xg, G = ⟨P, w, K, mg, base, N, qual, scope, f, cdv, Aw, outer, s.heap.objs.size, s1.heap.objs.size, go, s.gens.size, al, ns, tot, val⟩ := ⟨_, rfl⟩
    have alow : al < s.heap.objs.size := by
      obtain ⟨_, its, _, rits, hl⟩ := e0.hok al _ alH_at
      exact Heap.lt_size hl
    have ok : G.Ok := by
      subst eG
      exact ⟨fun b hb => by obtain ⟨_, o, ho, _⟩ := e0.funs.mem hb; exact Heap.lt_size ho, alow, lt1, e0.bsz, nocell _, isGen⟩
    refine ⟨G, ok, by rw [eG], by rw [eG], by rw [eG], by rw [eG], by rw [eG], by rw [eG], by rw [eG], by rw [eG], by rw [eG], by rw [eG], by rw [eG], by rw [eG], by rw [eG], by rw [eG], fun s2 e2' own => ?_⟩
    obtain ⟨t, ht, reading⟩ := inner Aw outer s.heap.objs.size s1.heap.objs.size go s.gens.size al ns tot val vs (by rw [← eG]; exact ok) (roomW.deeper _) wish
    have e0w : Env0 P w K mg base Aw outer s (alH al ns) := ⟨framesW, e0.mod, e0.bs, e0.bsz, e0.funs, e0.frf, e0.hok, e0.bare⟩
    have I1 : Inv (gcxOf P w K mg base N qual scope f cdv Aw outer s (alH al ns) E0 []) [] (start N vs) (alH al ns) s1 := inv_startG S roomW.hd e0w few rel made
    have keepP : ∀ b o, s1.heap.get? b = some o → (s1.heap.push go).get? b = some o := fun b o e => Heap.get?_push_of_some _ e
    obtain ⟨s', es'⟩ : ∃ s' : Shared, s' = { s1 with gens := s1.gens.push (.fresh (.func body (envOfC qual scope s.heap.objs.size f cdv))), toks := tk2, heap := s1.heap.push go } := ⟨_, rfl⟩
    have I2 : Inv (gcxOf P w K mg base N qual scope f cdv Aw outer s (alH al ns) E0 []) [] (start N vs) (alH al ns) s' := by
      rw [es']
      exact I1.call' (ch := []) rfl (Un.kept keepP) (I1.hok.kept keepP) (AllBare.push (by rw [gen1]; exact e0.bare) rfl) fun b z => by simp at z
    have I3 : Inv (gcxOf P w K mg base N qual scope f cdv Aw outer s (alH al ns) E0 [(s1.heap.objs.size, go)]) [] (start N vs) (alH al ns) s' := Inv.pinnedG I2 fun p hp => by
      have hp' : p = (s1.heap.objs.size, go) := by simpa using hp
      rw [hp', es']
      exact ⟨pushG _, I1.hok.fresh (Nat.le_refl _), Nat.ne_of_gt lt1, I1.nofs (Nat.le_refl _), fun v q => by rw [dataG] at q; cases q⟩
    have I4 := inv_lcx I3
    have ecx : G.cx s = lcx P w K mg base N qual scope f cdv Aw outer s.heap.objs.size s (alH al ns) E0 [(s1.heap.objs.size, go)] := by
      have h1 : G.hx s = alH G.al G.ns := hx_start (by rw [eG])
      show lcx G.P G.w G.K G.mg G.base G.N G.qual G.scope G.f G.cd G.A G.outer G.n0 (cutSh s G.n0) (G.hx s) E0 [(G.a, G.go)] = _
      rw [h1, eG]
      show lcx P w K mg base N qual scope f cdv Aw outer s.heap.objs.size (cutSh s s.heap.objs.size) (alH al ns) E0 [(s1.heap.objs.size, go)] = _
      rw [cutS_all (Nat.le_refl _)]
    rw [← ecx] at I4
    have own' : ∀ b o, (b = G.a ∨ Mine s'.heap G.n0 G.a G.al b) → s'.heap.get? b = some o → s2.heap.get? b = some o := by
      rw [eG, es']
      exact own
    have I5 := wake_in ok I4 (fun p z => absurd z List.not_mem_nil) e2' own'
    have hgo : s2.heap.get? G.a = some G.go := own' G.a _ (.inl rfl) (by rw [eG, es']; exact pushG _)
    have rd := reading (G.hx s2) (by rw [show al = G.al by rw [eG], show ns = G.ns by rw [eG]]; exact hx_al)
    subst eG
    refine seg_func ?_
    refine ht.run [] _ 0 s2 _ [] _ _ id id s2 (start N vs) _ _ ⟨over_func, rfl, rfl, rfl, fun p z => absurd z List.not_mem_nil⟩ rfl ⟨fun n i s₀ s4 fl hn seat hg hs => ?_, fun n s₀ e s4 seat hx => ?_⟩ ⟨e2', hgo⟩ rfl I5 rd
    · match fl, hs with
      | .next, ⟨σ', H', I', hi, sm⟩ => exact seg_end (.ok (.ret .none)) ⟨.inl rfl, (show n = 0 by have hn' : n + i = tot := hn; omega), keepx_of ok seat.1 I' sm hg seat.2⟩
      | .brk, ⟨_, _, _, q⟩ => exact False.elim q
      | .cont, ⟨_, _, _, q⟩ => exact False.elim q
      | .ret u, ⟨_, _, _, _, _, q⟩ => exact False.elim q
    · refine seg_wrap ?_
      rw [over_func]
      refine wpAny_mono hx (fun _ s'' q => ?_) fun _ s'' q => q.elim
      obtain ⟨a', B, H', cls, d, _, _, _, _, _, _, _, z⟩ := q.1
      exact z.elim
end Sq
set_option Elab.async false
set_option linter.all false
set_option maxRecDepth 100000
set_option maxHeartbeats 2000000
/-! zip of two generators: its turns. -/
namespace Sq
open PySem PySem.Spec PyProof.Rows L2 GenW
section
variable {P : Program} {w : World} {A : Around} {E : Value → Shared → Prop} {s : Shared}
/-- next of a generator that lets nothing out but its end -/
theorem nextOf_gen {a : Addr} {g n : Nat} {gs : GenState} {R : GenEnd} {Y : Protocol} {Q : Value → Shared → Prop} (hh : A.handled = none) (hl : s.heap.NoLimit) (hroom : A.depth < recursionLimit) (hg : s.heap.IsGen a g) (hgs : s.gens[g]? = some gs)
    (hgo : gs.Goes (model P w) A.in1 R Y n (.send .none) (s.setGen g .running))
    (hY : ∀ v s₁ gs', gs'.bare = true → Y (n - 1) (s.setGen g .running) v s₁ (fun r' s'' => match n with
        | 0 => False
        | m + 1 => gs'.Goes (model P w) A.in1 R Y m r' s'') → Q v (s₁.setGen g gs'))
    (hR : ∀ r s₁, R n (s.setGen g .running) r s₁ → (r = .ok (.ret .none) ∨ r = .ok .next) ∧ ∀ h' e, (∀ b o, s₁.heap.get? b = some o → h'.get? b = some o) → (∃ o, h'.get? e = some o ∧ o.cls = .type "StopIteration") → E (.ref e) { s₁.setGen g .finished with heap := h' }) :
    wpAny (model P w) A (Builtin.SmallTypes.nextOf (.ref a)) Q E s := by
  unfold Builtin.SmallTypes.nextOf
  refine wpAny_bind (wpAny_callSpecial?_slot (name := Str.ofString "__next__") hg.typeIs slot_gen_next (wpAny_call_entry slot_gen_next hg.typeIs entry_gen_next ?_ (args_gen_next _)))
  show wpAny _ A.in1 (Builtin.Generator.genWake (.ref a) (.send .none)) _ _ s
  unfold Builtin.Generator.genWake
  refine wpAny_bind (wpAny_holding (wpAny_genNumber hg (wpAny_bind (wpAny_genState hgs ?_))))
  cases gs with
  | running => exact hgo.elim
  | finished => exact hgo.elim
  | _ =>
    refine wpAny_bind (wpAny_roomToWake hl hroom ?_)
    show wpAny _ A.in1 (.resume g (.send .none) [] _) _ _ s
    refine wpAny_resumeQ hgs hgo (fun x s₁ hx => ?_) (fun v s₁ gs' hb hv => ?_)
    · obtain ⟨hr, fin⟩ := hR x s₁ hx
      have hres : End.result (.ret x) = .returned .none := by
        rcases hr with hr | hr <;> rw [hr] <;> rfl
      first | rw [hres] | simp only [hres]
      show wpAny _ A.in1 (newExc (.type "StopIteration") [] >>= _) _ _ _
      refine wpAny_bind ?_
      simp only [newExc, newTuple]
      refine wpAny_bind (wpAny_newObj_type ?_ (by size_fits))
      refine wpAny_bind (m := firstArgMember _ _) (wpAny_of_eq (a := Value.none) (by first | rfl | (simp only [firstArgMember]; rfl)) ?_)
      refine wpAny_newObj_type ?_ (by size_fits)
      simp only [raiseNew]
      refine wpAny_bind (wpAny_bind (wpAny_handled ?_))
      first | rw [show A.in1.handled = none from hh] | rw [hh]
      refine wpAny_throw ?_
      exact fin _ _ (fun b o hb => Heap.get?_push_of_some _ (Heap.get?_push_of_some _ hb)) ⟨_, Heap.get?_push_size _ rfl, rfl⟩
    · exact wpAny_pure ⟨v, rfl, wpAny_pure (hY v s₁ gs' hb hv)⟩
/-- zip's turn, whatever its two iterators are -/
theorem zip_turn {z TI TO i1 i2 : Addr} {a b : Value} {Q : Value → Shared → Prop} (zTO : z ≠ TO) (hz : IsZip s.heap z TI TO .none) (hTI : IsPair s.heap TI (.ref i1) (.ref i2))
    (first : ∀ h₁, IsZip h₁ z TI TO .ellipsis → Heap.SameBut z s.heap h₁ → wpAny (model P w) A (Builtin.SmallTypes.nextOf (.ref i1)) (fun x s₂ => IsZip s₂.heap z TI TO .ellipsis ∧ IsPair s₂.heap TO a b ∧ ∀ h₃, Heap.SameBut TO s₂.heap h₃ → IsPair h₃ TO x b →
        wpAny (model P w) A (Builtin.SmallTypes.nextOf (.ref i2)) (fun y s₄ => IsZip s₄.heap z TI TO .ellipsis ∧ IsPair s₄.heap TO x b ∧ ∀ h', IsZip h' z TI TO (rawInt s₄.heap.objs.size) → IsPair h' TO x y → IsPair h' s₄.heap.objs.size x y → (∀ c o, c ≠ z → c ≠ TO → s₄.heap.get? c = some o → h'.get? c = some o) → Q (.ref s₄.heap.objs.size) { s₄ with heap := h' })
          (fun e s₄ => IsZip s₄.heap z TI TO .ellipsis ∧ ∀ h, Heap.SameBut z s₄.heap h → E e { s₄ with heap := h }) { s₂ with heap := h₃ })
      (fun e s₂ => IsZip s₂.heap z TI TO .ellipsis ∧ ∀ h, Heap.SameBut z s₂.heap h → E e { s₂ with heap := h }) { s with heap := h₁ }) :
    wpAny (model P w) A (Builtin.«zip.__next__» ⟨[.ref z], []⟩) (fun fin s' => ∃ v, fin = .done (.ret v) ∧ Q v s') E s := by
  show wpAny _ _ (field (.ref z) 2 >>= _) _ _ _
  refine wpAny_bind (wpAny_field hz rfl (x := .bool false) rfl ?_)
  show wpAny _ _ (field (.ref z) 3 >>= _) _ _ _
  refine wpAny_bind (wpAny_field hz rfl (x := .ref TI) rfl ?_)
  refine wpAny_bind (wpAny_seqItems hTI rfl ?_)
  show wpAny _ _ (Builtin.SmallTypes.ownedTupleIsFree (.ref z) >>= _) _ _ _
  refine wpAny_bind ?_
  unfold Builtin.SmallTypes.ownedTupleIsFree
  refine wpAny_bind (wpAny_field hz rfl (x := .none) rfl (wpAny_pure ?_))
  simp only [if_true]
  refine wpAny_bind (wpAny_rule ?_)
  refine wpAny_bind (wpAny_field hz rfl (x := .ref TO) rfl ?_)
  refine wpAny_bind (wpAny_setField_rec hz (by simp) fun h₁ hz₁ hs₁ => ?_)
  replace hz₁ : IsZip h₁ z TI TO .ellipsis := hz₁
  refine wpAny_bind ?_
  simp only [List.zipIdx_cons, List.zipIdx_nil, List.forIn_cons, List.forIn_nil]
  refine wpAny_bind (wpAny_bind (wpAny_onRaise ?_))
  show wpAny _ _ (Builtin.SmallTypes.nextOf (.ref i1) >>= _) _ _ _
  have raised : ∀ (e : Value) (s₂ : Shared), (IsZip s₂.heap z TI TO .ellipsis ∧ ∀ h, Heap.SameBut z s₂.heap h → E e { s₂ with heap := h }) → wpAny (model P w) A (setField (.ref z) 0 .none) (fun _ s' => E e s') E s₂ := fun e s₂ h => by
    obtain ⟨h1, h2⟩ := h
    exact wpAny_setField_rec h1 (by simp) fun h₃ _ hs₃ => h2 h₃ hs₃
  refine wpAny_bind (wpAny_mono (first h₁ hz₁ hs₁) (fun x s₂ hh => wpAny_pure ?_) fun e s₂ hh => ?_)
  · obtain ⟨hz₂, hTO₂, second⟩ := hh
    refine wpAny_bind (wpAny_seqItems hTO₂ rfl ?_)
    refine wpAny_bind (wpAny_updateSeq_pair hTO₂ fun h₃ hTO₃ hs₃ => ?_)
    replace hTO₃ : IsPair h₃ TO x b := hTO₃
    refine wpAny_bind (wpAny_letGo (wpAny_pure ?_))
    refine wpAny_bind (wpAny_bind (wpAny_onRaise ?_))
    show wpAny _ _ (Builtin.SmallTypes.nextOf (.ref i2) >>= _) _ _ _
    refine wpAny_bind (wpAny_mono (second h₃ hs₃ hTO₃) (fun y s₄ hh => wpAny_pure ?_) fun e s₄ hh => ?_)
    · obtain ⟨hz₄, hTO₄, fin⟩ := hh
      refine wpAny_bind (wpAny_seqItems hTO₄ rfl ?_)
      refine wpAny_bind (wpAny_updateSeq_pair hTO₄ fun h₅ hTO₅ hs₅ => ?_)
      replace hTO₅ : IsPair h₅ TO x y := hTO₅
      refine wpAny_bind (wpAny_letGo (wpAny_pure (wpAny_pure ?_)))
      refine wpAny_bind (wpAny_seqItems hTO₅ rfl ?_)
      refine wpAny_bind (wpAny_newTuple ?_)
      have hsz : h₅.objs.size = s₄.heap.objs.size := hs₅.1
      have hz₅ : IsZip h₅ z TI TO .ellipsis := hs₅.extBut _ _ zTO hz₄
      have hzlt : z < h₅.objs.size := Heap.lt_size hz₅
      show wpAny _ _ (Builtin.SmallTypes.ownedTupleHandOut (.ref z) (.ref h₅.objs.size) >>= _) _ _ _
      refine wpAny_bind ?_
      unfold Builtin.SmallTypes.ownedTupleHandOut
      have hz₆ : IsZip (h₅.push { cls := .type "tuple", data := .seq #[x, y] }) z TI TO .ellipsis := Heap.get?_push_of_some _ hz₅
      refine wpAny_bind (wpAny_setField_rec hz₆ (by simp) fun h₇ hz₇ hs₇ => ?_)
      replace hz₇ : IsZip h₇ z TI TO (rawInt h₅.objs.size) := hz₇
      refine wpAny_setField_rec hz₇ (by simp) fun h₈ hz₈ hs₈ => ?_
      replace hz₈ : IsZip h₈ z TI TO (rawInt h₅.objs.size) := hz₈
      have up : ∀ c o, c ≠ z → h₅.get? c = some o → h₈.get? c = some o := fun c o c1 e => hs₈.extBut _ _ c1 (hs₇.extBut _ _ c1 (Heap.get?_push_of_some _ e))
      have hT₈ : IsPair h₈ h₅.objs.size x y := hs₈.extBut _ _ (Nat.ne_of_gt hzlt) (hs₇.extBut _ _ (Nat.ne_of_gt hzlt) (Heap.get?_push_size _ rfl))
      have hTO₈ : IsPair h₈ TO x y := up _ _ (Ne.symm zTO) hTO₅
      rw [hsz] at hz₈ hT₈
      refine wpAny_pure ⟨_, rfl, ?_⟩
      show Q (.ref h₅.objs.size) _
      rw [hsz]
      exact fin h₈ hz₈ hTO₈ hT₈ fun c o c1 c2 e => up c o c1 (hs₅.extBut _ _ c2 e)
    · exact raised e s₄ hh
  · exact raised e s₂ hh
/-- its end -/
def EZ (Q : Option Value → Shared → Prop) (e : Value) (s' : Shared) : Prop := ∃ (b : Addr) (o : Obj), e = .ref b ∧ s'.heap.get? b = some o ∧ o.cls = .type "StopIteration" ∧ Q none s'
/-- next of it -/
theorem next_zip {z TI TO i1 i2 : Addr} {a b : Value} {Q : Option Value → Shared → Prop} (zTO : z ≠ TO) (hz : IsZip s.heap z TI TO .none) (hTI : IsPair s.heap TI (.ref i1) (.ref i2))
    (first : ∀ h₁, IsZip h₁ z TI TO .ellipsis → Heap.SameBut z s.heap h₁ → wpAny (model P w) A.in1 (Builtin.SmallTypes.nextOf (.ref i1)) (fun x s₂ => IsZip s₂.heap z TI TO .ellipsis ∧ IsPair s₂.heap TO a b ∧ ∀ h₃, Heap.SameBut TO s₂.heap h₃ → IsPair h₃ TO x b →
        wpAny (model P w) A.in1 (Builtin.SmallTypes.nextOf (.ref i2)) (fun y s₄ => IsZip s₄.heap z TI TO .ellipsis ∧ IsPair s₄.heap TO x b ∧ ∀ h', IsZip h' z TI TO (rawInt s₄.heap.objs.size) → IsPair h' TO x y → IsPair h' s₄.heap.objs.size x y → (∀ c o, c ≠ z → c ≠ TO → s₄.heap.get? c = some o → h'.get? c = some o) → Q (some (.ref s₄.heap.objs.size)) { s₄ with heap := h' })
          (fun e s₄ => IsZip s₄.heap z TI TO .ellipsis ∧ ∀ h, Heap.SameBut z s₄.heap h → EZ Q e { s₄ with heap := h }) { s₂ with heap := h₃ })
      (fun e s₂ => IsZip s₂.heap z TI TO .ellipsis ∧ ∀ h, Heap.SameBut z s₂.heap h → EZ Q e { s₂ with heap := h }) { s with heap := h₁ }) :
    wpAny (model P w) A (pyNext (.ref z)) Q E s := by
  have hT : s.TypeIs (.ref z) "zip" := ⟨_, hz, rfl⟩
  unfold pyNext
  have inner := zip_turn (A := A.in1) (E := EZ Q) (Q := fun v s' => Q (some v) s') zTO hz hTI first
  refine wpAny_bind (wpAny_attempt (wpAny_callSpecial?_slot (name := Str.ofString "__next__") hT F.slot_zip_next
    (wpAny_call_entry F.slot_zip_next hT F.entry_zip_next (wpAny_mono inner (fun fin s' hh => ?_) fun e s' hh => ?_) (F.args_zip_next_1 _))))
  · obtain ⟨v, rfl, q⟩ := hh
    exact ⟨v, rfl, wpAny_pure q⟩
  · obtain ⟨b', o, rfl, ho, hc, q⟩ := hh
    refine wpAny_bind (wpAny_isInstance (T := "StopIteration") (b := true) ⟨o, ho, hc⟩ isSubtype_stop ?_)
    exact wpAny_pure q
end
end Sq
set_option Elab.async false
set_option linter.all false
set_option maxRecDepth 100000
set_option maxHeartbeats 2000000
namespace Sq
open PySem PySem.Spec PyProof.Rows L2 GenW
/-- what a turn of the generator leaves -/
structure Kept (G : Xg) (s s' : Shared) : Prop where
  os : s'.os = s.os
  gens : ∀ k, k ≠ G.g → s'.gens[k]? = s.gens[k]?
  bare : AllBare s'.gens
  keep : ∀ b o, s.heap.get? b = some o → b ∉ frs G.outer → ¬ Mine s.heap G.n0 G.a G.al b → b ≠ G.al → s'.heap.get? b = some o
  slot : ∀ b o, s.heap.get? b = some o → b ∈ frs G.outer → ∃ sl, s'.heap.get? b = some { o with slots := sl }
  lst : HOk G.P G.w (alH G.al G.ns) s'.heap
  there : ∃ o es ep, s'.heap.get? G.n0 = some o ∧ o.data = .dict es ep
/-- it waits at its n-th item from the end -/
structure Asleep (G : Xg) (n : Nat) (s : Shared) : Prop where
  gen : s.heap.IsGen G.a G.g
  st : ∃ gs, s.gens[G.g]? = some gs ∧ ∀ s2, G.E0 s2 → (∀ b o, (b = G.a ∨ Mine s.heap G.n0 G.a G.al b) → s.heap.get? b = some o → s2.heap.get? b = some o) → gs.Goes G.md G.A G.R G.Y n (.send .none) s2
section
variable {G : Xg} {n : Nat} {s s' s₁ : Shared}
theorem Asleep.keep (a : Asleep G n s) (hg : s'.gens[G.g]? = s.gens[G.g]?) (k : ∀ b o, (b = G.a ∨ Mine s.heap G.n0 G.a G.al b) → s.heap.get? b = some o → s'.heap.get? b = some o) : Asleep G n s' := by
  obtain ⟨⟨o, nm, qn, ho, r⟩, gs, h1, h2⟩ := a
  refine ⟨⟨o, nm, qn, k _ _ (.inl rfl) ho, r⟩, gs, hg.trans h1, fun s2 e own => h2 s2 e fun b o m q => own b o ?_ (k b o m q)⟩
  rcases m with m | m | ⟨m1, j, oi, ei, ri⟩
  · exact .inl m
  · exact .inr (.inl m)
  · exact .inr (.inr ⟨m1, j, oi, k _ _ (.inr (.inr ⟨m1, j, oi, ei, ri⟩)) ei, ri⟩)
theorem funs_slots {h h' base : Heap} : ∀ {l : List Env}, h.FunFrames base l → (∀ b o, h.get? b = some o → b ∈ frs l → ∃ sl, h'.get? b = some { o with slots := sl }) → h'.FunFrames base l
  | [], _, _ => trivial
  | env :: l, q, k => by
    obtain ⟨hk, ⟨L, o, hf, hn, ho, hd⟩, hr⟩ := q
    have eL : frs (env :: l) = L :: frs l := by
      unfold frs
      rw [List.filterMap_cons, hf]
    rw [eL] at k
    obtain ⟨sl, e⟩ := k L o ho List.mem_cons_self
    exact ⟨hk, ⟨L, _, hf, hn, e, hd⟩, funs_slots hr fun b o e hb => k b o e (List.mem_cons_of_mem _ hb)⟩
theorem base_no {h base : Heap} : ∀ {l : List Env}, h.FunFrames base l → ∀ b o, base.get? b = some o → b ∉ frs l
  | [], _, b, o, e => List.not_mem_nil
  | env :: l, q, b, o, e => by
    obtain ⟨hk, ⟨L, o', hf, hn, ho, hd⟩, hr⟩ := q
    have eL : frs (env :: l) = L :: frs l := by
      unfold frs
      rw [List.filterMap_cons, hf]
    rw [eL]
    intro m
    rcases List.mem_cons.mp m with z | z
    · rw [z, hn] at e
      cases e
    · exact base_no hr b o e z
theorem e0_kept (ok : G.Ok) (e : G.E0 s) (k : Kept G s s') : G.E0 s' := by
  refine ⟨e.frames, e.mod, fun b o q => ?_, ?_, funs_slots e.funs k.slot, e.frf, k.lst, k.bare⟩
  · obtain ⟨h1, h2⟩ := e.bs b o q
    have lt : b < G.n0 := Nat.lt_of_lt_of_le (Heap.lt_size q) ok.bsz
    refine ⟨k.keep b o h1 (base_no e.funs b o q) (fun m => ?_) (fun z => ?_), h2⟩
    · rcases m with m | ⟨m, _⟩
      · exact absurd (m ▸ lt) (Nat.lt_irrefl _)
      · exact absurd (Nat.lt_trans lt (Nat.lt_trans ok.na m)) (Nat.lt_irrefl _)
    · rw [z, alH_at] at h2
      cases h2
  · obtain ⟨o, _, _, q, _⟩ := k.there
    exact Nat.le_trans ok.bsz (Nat.le_of_lt (Heap.lt_size q))
theorem e0_heap (e : G.E0 s) (h1 : s'.heap = s.heap) (h2 : AllBare s'.gens) : G.E0 s' := by
  refine ⟨e.frames, e.mod, ?_, ?_, ?_, e.frf, ?_, h2⟩
  · rw [h1]; exact e.bs
  · rw [h1]; exact e.bsz
  · rw [h1]; exact e.funs
  · rw [h1]; exact e.hok
theorem setGen_ne {s : Shared} {g k : Nat} {x : GenState} (h : k ≠ g) : (s.setGen g x).gens[k]? = s.gens[k]? := by
  show (s.gens.setIfInBounds g x)[k]? = _
  rw [Array.getElem?_setIfInBounds_ne (Ne.symm h)]
theorem kept_of (k : KeepX G (s.setGen G.g .running) s₁) {x : GenState} (hx : x.bare = true) : Kept G s (s₁.setGen G.g x) :=
  ⟨k.os, fun j hj => by rw [setGen_ne hj, k.gens, setGen_ne hj], allBare_setGen k.bare hx, k.keep, k.slot, k.lst, k.there⟩
/-- its next item, or its end -/
theorem wake_turn {A : Around} (ok : G.Ok) (as : Asleep G n s) (e : G.E0 s) (eA : G.A = A.in1) (hh : A.handled = none) (hroom : A.depth < recursionLimit) :
    wpAny (model G.P G.w) A (Builtin.SmallTypes.nextOf (.ref G.a)) (fun v s' => ∃ m i, n = m + 1 ∧ n + i = G.tot ∧ (∃ t, v = .int (G.val i) t) ∧ Kept G s s' ∧ Asleep G m s')
      (fun x s' => n = 0 ∧ ∃ b o, x = .ref b ∧ s'.heap.get? b = some o ∧ o.cls = .type "StopIteration" ∧ Kept G s s') s := by
  obtain ⟨isG, gs, hgs, goes⟩ := as
  have lim : s.heap.NoLimit := e.mod.nolimit.keeps fun b o q => (e.bs b o q).1
  have hgl : G.g < s.gens.size := (Array.getElem?_eq_some_iff.mp hgs).1
  have e2 : G.E0 (s.setGen G.g .running) := e0_heap e rfl (allBare_setGen e.bare rfl)
  have go := goes (s.setGen G.g .running) e2 fun b o m q => q
  rw [eA] at go
  refine nextOf_gen hh lim hroom isG hgs go (fun v s₁ gs' hb hv => ?_) fun r s₁ hr => ?_
  · obtain ⟨i, hi, ht, k, back⟩ := hv
    have kt := kept_of k hb
    have e3 := e0_kept ok e kt
    have sz : G.g < s₁.gens.size := by
      rw [k.gens]
      show G.g < (s.setGen G.g .running).gens.size
      rw [setGen_size]
      exact hgl
    cases n with
    | zero => exact (back (s₁.setGen G.g gs') e3 fun b o m q => q).elim
    | succ m =>
      refine ⟨m, i, rfl, by omega, ht, kt, ?_, gs', setGen_at sz, fun s2 e4 own => ?_⟩
      · obtain ⟨o, nm, qn, ho, r⟩ := isG
        have nm' : ¬ Mine s.heap G.n0 G.a G.al G.a := fun z => by
          rcases z with z | ⟨_, j, oi, ei, ci, di⟩
          · exact absurd (z ▸ ok.na) (Nat.lt_irrefl _)
          · rw [ho] at ei
            cases ei
            rw [r.1] at ci
            exact absurd ci (by decide)
        refine ⟨o, nm, qn, kt.keep G.a o ho (fun z => absurd (Nat.lt_trans (ok.low _ z) ok.na) (Nat.lt_irrefl _)) nm' (fun z => absurd (z ▸ Nat.lt_trans ok.alow ok.na) (Nat.lt_irrefl _)), r⟩
      · have b2 := back s2 e4 own
        rw [eA]
        exact b2
  · obtain ⟨h1, rfl, k⟩ := hr
    refine ⟨h1, fun h' b kk hs => ?_⟩
    obtain ⟨o, ho, hc⟩ := hs
    have kt := kept_of k (x := .finished) rfl
    refine ⟨rfl, b, o, rfl, ho, hc, kt.os, kt.gens, kt.bare, fun c u q h1 h2 h3 => kk _ _ (kt.keep c u q h1 h2 h3), fun c u q h => ?_, kt.lst.kept kk, ?_⟩
    · obtain ⟨sl, z⟩ := kt.slot c u q h
      exact ⟨sl, kk _ _ z⟩
    · obtain ⟨o', es, ep, z, d⟩ := kt.there
      exact ⟨o', es, ep, kk _ _ z, d⟩
/-- a consumer that owns nothing of it -/
theorem inv_kept {X : Cx} {pins : List (Addr × Obj)} {σ : L2.St} {H : Hp} (I : Inv X pins σ H s) (ok : G.Ok) (ab : Above X pins G.n0) (eo : G.outer = X.stack) (eP : G.P = X.prog) (ew : G.w = X.w) (k : Kept G s s') (hal : H G.al = some (.lst (G.ns.map V.int))) (free : ∀ b, Mine s.heap G.n0 G.a G.al b → H b = none) : Inv X pins σ H s' := by
  have low : ∀ {b : Addr} {o : Obj}, s.heap.get? b = some o → b ∉ (List.range s.heap.objs.size).filter (fun b => decide (G.n0 ≤ b)) → b < G.n0 := fun {b o} e nm => by
    by_cases lt : b < G.n0
    · exact lt
    · exact absurd (List.mem_filter.mpr ⟨List.mem_range.mpr (Heap.lt_size e), decide_eq_true (Nat.le_of_not_lt lt)⟩) nm
  have nm : ∀ {b : Addr}, b < G.n0 → ¬ Mine s.heap G.n0 G.a G.al b := fun {b} lt m => by
    rcases m with m | ⟨m, _⟩
    · exact absurd (m ▸ lt) (Nat.lt_irrefl _)
    · exact absurd (Nat.lt_trans lt (Nat.lt_trans ok.na m)) (Nat.lt_irrefl _)
  have alNone : ∀ {b : Addr}, H b = none → b ≠ G.al := fun {b} e z => by
    rw [z, hal] at e
    cases e
  have kf : ∀ b o, s.heap.get? b = some o → b ∉ frs X.stack → ¬ Mine s.heap G.n0 G.a G.al b → b ≠ G.al → s'.heap.get? b = some o := by
    rw [← eo]
    exact k.keep
  refine I.call' (ch := (List.range s.heap.objs.size).filter fun b => decide (G.n0 ≤ b)) k.os ⟨fun b o e n nf hx => ?_, fun b o e n hf hx => ?_, fun b o e n hx => n, fun b o e hx => ?_, fun b xs e => e, fun b o u e => e, fun b ps e => ⟨#[], by rw [e]; simp⟩⟩ ?_ k.bare fun b hb => ?_
  · exact kf b o e nf (nm (low e hx)) (alNone n)
  · rw [← eo] at hf
    exact k.slot b o e hf
  · by_cases ha : b = G.al
    · subst ha
      obtain ⟨_, its, _, _, hl⟩ := k.lst G.al _ alH_at
      exact ⟨_, hl⟩
    · by_cases hf : b ∈ frs X.stack
      · rw [← eo] at hf
        obtain ⟨sl, z⟩ := k.slot b o e hf
        exact ⟨_, z⟩
      · exact ⟨o, kf b o e hf (nm (low e hx)) ha⟩
  · intro b u e
    by_cases ha : b = G.al
    · subst ha
      rw [hal] at e
      cases e
      obtain ⟨z, its, m, r, eo'⟩ := k.lst G.al _ alH_at
      exact ⟨z, its, m, r, eo'⟩
    · refine (I.hok b u e).stay (fun c w' hc q => ?_) (fun _ q => q) fun _ _ q => q
      have nf : c ∉ frs X.stack := fun hf => by
        have z := I.stkFree c hf
        rcases hc with hc | hc
        · rw [hc, e] at z
          cases z
        · rw [hc] at z
          cases z
      refine kf c w' q nf (fun m => ?_) fun z => ?_
      · have z := free c m
        rcases hc with hc | hc
        · rw [hc, e] at z
          cases z
        · rw [hc] at z
          cases z
      · rcases hc with hc | hc
        · exact ha (hc ▸ z)
        · rw [z, hal] at hc
          cases hc
  · have le : G.n0 ≤ b := of_decide_eq_true (List.mem_filter.mp hb).2
    refine ⟨.inr (Nat.le_trans ab.young le), Nat.ne_of_gt (Nat.lt_of_lt_of_le ab.loc le), fun x c e z => ?_, fun p hp z => ?_⟩
    · exact absurd z (Nat.ne_of_lt (Nat.lt_of_lt_of_le (ab.cell x c e) le))
    · exact absurd z (Nat.ne_of_lt (Nat.lt_of_lt_of_le (ab.pin p hp) le))
end
end Sq
set_option Elab.async false
set_option linter.all false
set_option maxRecDepth 100000
set_option maxHeartbeats 2000000
/-! zip of two generators: the call. -/
namespace Sq
open PySem PySem.Spec PyProof.Rows L2 GenW
abbrev zgH1 (h : Heap) (a1 a2 : Addr) : Heap := h.push { cls := .type "tuple", data := .seq #[.ref a1, .ref a2] }
abbrev zgH2 (h : Heap) (a1 a2 : Addr) : Heap := (zgH1 h a1 a2).push { cls := .type "tuple", data := .seq #[.none, .none] }
abbrev zgH3 (h : Heap) (a1 a2 : Addr) : Heap := (zgH2 h a1 a2).push { cls := .type "zip", data := .fields #[.none, .bool false, .bool false, .ref h.objs.size, .ref (zgH1 h a1 a2).objs.size] }
theorem meets_zipG_new (a1 a2 : Addr) (g1 g2 : Nat) :
    Meets (Builtin.«zip.__new__» ⟨[.type "zip", .ref a1, .ref a2], []⟩) (fun _ R s => s.heap.IsGen a1 g1 ∧ s.heap.IsGen a2 g2 ∧
      R (.ok (.ret (.ref (zgH2 s.heap a1 a2).objs.size))) { s with heap := zgH3 s.heap a1 a2 }) :=
  .of_wp fun prog w A R s h => by
    obtain ⟨hp, g, d, tk, os⟩ := s; obtain ⟨hl1, hl2, h⟩ := h
    have hsub := sub_zip
    have hL1 : Heap.IsGen (Shared.heap ⟨hp, g, d, tk, os⟩) a1 g1 := hl1
    have hL2 : Heap.IsGen (Shared.heap ⟨hp, g, d, tk, os⟩) a2 g2 := hl2
    wp_walk using wpAny_pyIter_gen hL1, wpAny_pyIter_gen hL2
    exact ⟨_, rfl, h⟩
section
variable {P : Program} {w : World} {A : Around} {E : Value → Shared → Prop} {s : Shared}
theorem call_zipG {a1 a2 : Addr} {g1 g2 : Nat} {Q : Value → Shared → Prop} (hl1 : s.heap.IsGen a1 g1) (hl2 : s.heap.IsGen a2 g2)
    (h : ∀ h', IsZip h' (s.heap.objs.size + 2) s.heap.objs.size (s.heap.objs.size + 1) .none → IsPair h' s.heap.objs.size (.ref a1) (.ref a2) →
      IsPair h' (s.heap.objs.size + 1) .none .none → h'.objs.size = s.heap.objs.size + 3 →
      (∀ c o, s.heap.get? c = some o → h'.get? c = some o) → Q (.ref (s.heap.objs.size + 2)) { s with heap := h' }) :
    wpAny (model P w) A (call (.type "zip") [.ref a1, .ref a2]) Q E s := by
  refine callType_new F.called_zip (by decide) (F.typeCall_zip_2 _ _) (F.newCall_zip_2 _ _) (fun obj => F.args_object_init_3 obj _ _) F.entry_zip_new
    (meets_zipG_new a1 a2 g1 g2) ⟨hl1, hl2, ?_⟩
  have z1 : (zgH1 s.heap a1 a2).objs.size = s.heap.objs.size + 1 := Heap.size_push ..
  have z2 : (zgH2 s.heap a1 a2).objs.size = s.heap.objs.size + 2 := by rw [Heap.size_push, z1]
  have z3 : (zgH3 s.heap a1 a2).objs.size = s.heap.objs.size + 3 := by rw [Heap.size_push, z2]
  have g3 : (zgH3 s.heap a1 a2).get? (zgH2 s.heap a1 a2).objs.size = some _ := Heap.get?_push_size _ rfl
  have g2 : (zgH3 s.heap a1 a2).get? (zgH1 s.heap a1 a2).objs.size = some _ := Heap.get?_push_of_some _ (Heap.get?_push_size _ rfl)
  have g1 : (zgH3 s.heap a1 a2).get? s.heap.objs.size = some _ := Heap.get?_push_of_some _ (Heap.get?_push_of_some _ (Heap.get?_push_size _ rfl))
  show _ ∧ _
  rw [z1, z2] at g3
  rw [z1] at g2
  rw [z2]
  exact ⟨⟨_, g3, rfl⟩, h _ g3 g1 g2 z3 fun c o x => Heap.get?_push_of_some _ (Heap.get?_push_of_some _ (Heap.get?_push_of_some _ x))⟩
end
end Sq
set_option Elab.async false
set_option linter.all false
set_option maxRecDepth 100000
set_option maxHeartbeats 2000000
/-! A comprehension over zip of two generators: one turn of zip. -/
namespace Sq
open PySem PySem.Spec PyProof.Rows L2 GenW
/-- where the two generators, zip and the comprehension lie -/
structure Zx where
  G1 : Xg
  G2 : Xg
  TI : Addr
  TO : Addr
  z : Addr
  C : Addr
structure Zx.Ok (Z : Zx) (X : Cx) (pins : List (Addr × Obj)) : Prop where
  o1 : Z.G1.Ok
  o2 : Z.G2.Ok
  ab1 : Above X pins Z.G1.n0
  ab2 : Above X pins Z.G2.n0
  s1 : Z.G1.P = X.prog ∧ Z.G1.w = X.w ∧ Z.G1.K = X.K ∧ Z.G1.mg = X.mg ∧ Z.G1.base = X.base ∧ Z.G1.outer = X.stack ∧ Z.G1.A = X.A.in1.in1 ∧ Z.G1.A.frames = some X.stack
  s2 : Z.G2.P = X.prog ∧ Z.G2.w = X.w ∧ Z.G2.K = X.K ∧ Z.G2.mg = X.mg ∧ Z.G2.base = X.base ∧ Z.G2.outer = X.stack ∧ Z.G2.A = X.A.in1.in1 ∧ Z.G2.A.frames = some X.stack
  g : Z.G1.g ≠ Z.G2.g
  fs : ∀ b ∈ X.fs, b < Z.G1.n0
  q1 : Z.G1.a < Z.G2.n0
  qn : Z.G1.al ≠ Z.G2.al
  q2 : Z.G2.a < Z.TI
  q3 : Z.TI < Z.TO
  q4 : Z.TO < Z.z
  q5 : Z.z < Z.C
/-- what the readings know -/
structure Zx.Hf (Z : Zx) (H : Hp) : Prop where
  l1 : H Z.G1.al = some (.lst (Z.G1.ns.map V.int))
  l2 : H Z.G2.al = some (.lst (Z.G2.ns.map V.int))
  young : ∀ b u, Z.G1.n0 ≤ b → H b = some u → ∃ xs, u = .lst xs
  free : ∀ b ∈ [Z.G1.n0, Z.G1.a, Z.G2.n0, Z.G2.a, Z.TI, Z.TO, Z.z, Z.C], H b = none
/-- an object that no list iterator is -/
def Solid (h : Heap) (b : Addr) : Prop := ∃ o, h.get? b = some o ∧ (o.cls ≠ .type "list_iterator" ∨ ∃ es ep, o.data = .dict es ep)
/-- what stands between the steps -/
structure Zx.At (Z : Zx) (X : Cx) (pins : List (Addr × Obj)) (σ : L2.St) (H : Hp) (i1 i2 : Nat) (s : Shared) : Prop where
  I : Inv X pins σ H s
  a1 : Asleep Z.G1 i1 s
  a2 : Asleep Z.G2 i2 s
  n1 : ∃ o es ep, s.heap.get? Z.G1.n0 = some o ∧ o.data = .dict es ep
  n2 : ∃ o es ep, s.heap.get? Z.G2.n0 = some o ∧ o.data = .dict es ep
  ti : IsPair s.heap Z.TI (.ref Z.G1.a) (.ref Z.G2.a)
  c : ∃ m, s.heap.Ns Z.C m
section
variable {Z : Zx} {X : Cx} {pins : List (Addr × Obj)} {σ : L2.St} {H : Hp} {i1 i2 : Nat} {s s' : Shared}
theorem iter_not_dict {h : Heap} {b al : Addr} {j : Nat} {o : Obj} {es ep} (i : h.IsListIter b al j) (e : h.get? b = some o) : o.data ≠ .dict es ep := fun d => by
  obtain ⟨o', e', c, d'⟩ := i
  rw [e] at e'
  cases e'
  rw [d] at d'
  cases d'
theorem lst_not_iter {P : Program} {w : World} {H : Hp} {h : Heap} {b al : Addr} {xs : List V} {j : Nat} (ok : HOk P w H h) (e : H b = some (.lst xs)) : ¬ h.IsListIter b al j := fun i => by
  obtain ⟨_, its, n, _, hl⟩ := ok b _ e
  obtain ⟨o', e', c, d'⟩ := i
  rw [hl] at e'
  cases e'
  cases d'
theorem mine1 (f : Z.Hf H) (ok : Z.Ok X pins) (I : Inv X pins σ H s) : ∀ b, Mine s.heap Z.G1.n0 Z.G1.a Z.G1.al b → H b = none := fun b m => by
  rcases m with m | ⟨m, j, it⟩
  · exact f.free b (by rw [m]; simp)
  · cases e : H b with
    | none => rfl
    | some u =>
      obtain ⟨xs, rfl⟩ := f.young b u (Nat.le_of_lt (Nat.lt_trans ok.o1.na m)) e
      exact absurd it (lst_not_iter I.hok e)
theorem mine2 (f : Z.Hf H) (ok : Z.Ok X pins) (I : Inv X pins σ H s) : ∀ b, Mine s.heap Z.G2.n0 Z.G2.a Z.G2.al b → H b = none := fun b m => by
  rcases m with m | ⟨m, j, it⟩
  · exact f.free b (by rw [m]; simp)
  · cases e : H b with
    | none => rfl
    | some u =>
      have l : Z.G1.n0 < b := Nat.lt_trans ok.o1.na (Nat.lt_trans ok.q1 (Nat.lt_trans ok.o2.na m))
      obtain ⟨xs, rfl⟩ := f.young b u (Nat.le_of_lt l) e
      exact absurd it (lst_not_iter I.hok e)
/-- a generator may be woken -/
theorem e0_of {G : Xg} (I : Inv X pins σ H s) (st : G.P = X.prog ∧ G.w = X.w ∧ G.K = X.K ∧ G.mg = X.mg ∧ G.base = X.base ∧ G.outer = X.stack ∧ G.A = X.A.in1.in1 ∧ G.A.frames = some X.stack) (l : H G.al = some (.lst (G.ns.map V.int))) : G.E0 s := by
  obtain ⟨e1, e2, e3, e4, e5, e6, e7, e8⟩ := st
  have e := I.env0
  have ne : ∀ {b : Addr}, H b = none → alH G.al G.ns b = none := fun {b} h => alH_ne fun z => by
    rw [z, l] at h
    cases h
  show Env0 G.P G.w G.K G.mg G.base G.A G.outer s (alH G.al G.ns)
  rw [e1, e2, e3, e4, e5, e6]
  refine ⟨e8, e.mod, fun b o q => ⟨(e.bs b o q).1, ne (e.bs b o q).2⟩, e.bsz, e.funs, fun b hb => ne (e.frf b hb), fun b u q => ?_, e.bare⟩
  by_cases hb : b = G.al
  · subst hb
    rw [alH_at] at q
    cases q
    obtain ⟨z, its, m, r, eo⟩ := e.hok G.al _ l
    exact ⟨z, its, m, r, eo⟩
  · rw [alH_ne hb] at q
    cases q
theorem Zx.Ok.ord (ok : Z.Ok X pins) : Z.G1.n0 < Z.G1.a ∧ Z.G1.a < Z.G2.n0 ∧ Z.G2.n0 < Z.G2.a ∧ Z.G2.a < Z.TI ∧ Z.TI < Z.TO ∧ Z.TO < Z.z ∧ Z.z < Z.C :=
  ⟨ok.o1.na, ok.q1, ok.o2.na, ok.q2, ok.q3, ok.q4, ok.q5⟩
theorem fp_zip (f : Z.Hf H) (ok : Z.Ok X pins) : ∀ b ∈ [Z.z, Z.TO], FpOk X pins H b := fun b hb => by
  obtain ⟨w1, w2, w3, w4, w5, w6, w7⟩ := ok.ord
  have g1n : Z.G1.n0 < b := by
    have e : b = Z.z ∨ b = Z.TO := by simpa using hb
    have l : Z.G1.n0 < Z.TO := Nat.lt_trans w1 (Nat.lt_trans w2 (Nat.lt_trans w3 (Nat.lt_trans w4 w5)))
    rcases e with e | e
    · rw [e]
      exact Nat.lt_trans l w6
    · rw [e]
      exact l
  have hf : H b = none := f.free b (by
    have e : b = Z.z ∨ b = Z.TO := by simpa using hb
    rcases e with e | e <;> rw [e] <;> simp)
  refine ⟨hf, Nat.ne_of_gt (Nat.lt_trans ok.ab1.loc g1n), fun m => ?_, .inr (Nat.le_of_lt (Nat.lt_of_le_of_lt ok.ab1.young g1n)), fun x c e z => ?_, fun p hp z => ?_⟩
  · exact absurd (Nat.lt_trans (ok.fs b m) g1n) (Nat.lt_irrefl _)
  · exact absurd z (Nat.ne_of_lt (Nat.lt_trans (ok.ab1.cell x c e) g1n))
  · exact absurd z (Nat.ne_of_lt (Nat.lt_trans (ok.ab1.pin p hp) g1n))
theorem at_touch {h' : Heap} {t' : Nat} (f : Z.Hf H) (ok : Z.Ok X pins) (A : Z.At X pins σ H i1 i2 s) (solz : Solid s.heap Z.z) (solT : Solid s.heap Z.TO) (k : ∀ c o, c ≠ Z.z → c ≠ Z.TO → s.heap.get? c = some o → h'.get? c = some o) : Z.At X pins σ H i1 i2 { s with heap := h', toks := t' } := by
  obtain ⟨w1, w2, w3, w4, w5, w6, w7⟩ := ok.ord
  have noit : ∀ {b c al : Addr} {j : Nat}, Solid s.heap b → s.heap.IsListIter c al j → c ≠ b := fun sol i e => by
    obtain ⟨o, eo, no⟩ := sol
    obtain ⟨o', e', c', d'⟩ := i
    rw [e, eo] at e'
    cases e'
    rcases no with no | ⟨es, ep, no⟩
    · exact no c'
    · rw [no] at d'
      cases d'
  have lo : ∀ {c : Addr} {o : Obj}, c < Z.TO → s.heap.get? c = some o → h'.get? c = some o := fun {c o} l e => k c o (Nat.ne_of_lt (Nat.lt_trans l w6)) (Nat.ne_of_lt l) e
  have g2a : Z.G2.a < Z.TO := Nat.lt_trans w4 w5
  have g2n : Z.G2.n0 < Z.TO := Nat.lt_trans w3 g2a
  have g1a : Z.G1.a < Z.TO := Nat.lt_trans w2 g2n
  have g1n : Z.G1.n0 < Z.TO := Nat.lt_trans w1 g1a
  refine ⟨A.I.turnedL (t' := t') (ch := [Z.z, Z.TO]) (fun c o hb q => k c o (fun z => hb (by simp [z])) (fun z => hb (by simp [z])) q) (fp_zip f ok), A.a1.keep rfl fun c o m q => ?_, A.a2.keep rfl fun c o m q => ?_, ?_, ?_, lo w5 A.ti, ?_⟩
  · rcases m with m | m | ⟨_, j, it⟩
    · exact lo (m ▸ g1a) q
    · exact lo (m ▸ g1n) q
    · exact k c o (noit solz it) (noit solT it) q
  · rcases m with m | m | ⟨_, j, it⟩
    · exact lo (m ▸ g2a) q
    · exact lo (m ▸ g2n) q
    · exact k c o (noit solz it) (noit solT it) q
  · obtain ⟨o, es, ep, e, d⟩ := A.n1
    exact ⟨o, es, ep, lo g1n e, d⟩
  · obtain ⟨o, es, ep, e, d⟩ := A.n2
    exact ⟨o, es, ep, lo g2n e, d⟩
  · obtain ⟨m, o, es, ep, e, r⟩ := A.c
    exact ⟨m, o, es, ep, k _ _ (Nat.ne_of_gt w7) (Nat.ne_of_gt (Nat.lt_trans w6 w7)) e, r⟩
/-- behind the first's turn -/
theorem at_first (f : Z.Hf H) (ok : Z.Ok X pins) (A : Z.At X pins σ H i1 i2 s) (kt : Kept Z.G1 s s') {j : Nat} (as : Asleep Z.G1 j s') : Z.At X pins σ H j i2 s' := by
  obtain ⟨w1, w2, w3, w4, w5, w6, w7⟩ := ok.ord
  have nfr : ∀ {b : Addr}, Z.G1.n0 < b → b ∉ frs Z.G1.outer := fun {b} l m => absurd (Nat.lt_trans (ok.o1.low b m) l) (Nat.lt_irrefl _)
  have nal : ∀ {b : Addr}, Z.G1.n0 < b → b ≠ Z.G1.al := fun {b} l z => absurd (Nat.lt_trans (z ▸ ok.o1.alow) l) (by rw [z]; exact Nat.lt_irrefl _)
  have keep : ∀ b o, Z.G1.n0 < b → (∀ j, ¬ s.heap.IsListIter b Z.G1.al j) → s.heap.get? b = some o → s'.heap.get? b = some o := fun b o l ni e => kt.keep b o e (nfr l) (fun m => by
    rcases m with m | ⟨_, j, it⟩
    · exact absurd (m ▸ l) (Nat.lt_irrefl _)
    · exact ni j it) (nal l)
  have l2n : Z.G1.n0 < Z.G2.n0 := Nat.lt_trans w1 w2
  have l2a : Z.G1.n0 < Z.G2.a := Nat.lt_trans l2n w3
  have lTI : Z.G1.n0 < Z.TI := Nat.lt_trans l2a w4
  have lC : Z.G1.n0 < Z.C := Nat.lt_trans lTI (Nat.lt_trans w5 (Nat.lt_trans w6 w7))
  have n2k : ∀ o, s.heap.get? Z.G2.n0 = some o → s'.heap.get? Z.G2.n0 = some o := fun o e => keep _ o l2n (fun j it => by
    obtain ⟨o', es, ep, e', d⟩ := A.n2
    exact iter_not_dict it e' d) e
  refine ⟨inv_kept A.I ok.o1 ok.ab1 ok.s1.2.2.2.2.2.1 ok.s1.1 ok.s1.2.1 kt f.l1 (mine1 f ok A.I), as, A.a2.keep (kt.gens _ (Ne.symm ok.g)) fun c o m q => ?_, kt.there, ?_, ?_, ?_⟩
  · rcases m with m | m | ⟨lt, j, it⟩
    · rw [m] at q ⊢
      refine keep _ o l2a (fun j it => ?_) q
      obtain ⟨o', nm, qn, e', r⟩ := A.a2.gen
      obtain ⟨o2, e2, c2, _⟩ := it
      rw [e'] at e2
      cases e2
      rw [r.1] at c2
      exact absurd c2 (by decide)
    · rw [m] at q ⊢
      exact n2k o q
    · refine keep c o (Nat.lt_trans l2a lt) (fun j' it' => ?_) q
      obtain ⟨o1, e1, c1, d1⟩ := it
      obtain ⟨o2, e2, c2, d2⟩ := it'
      rw [e1] at e2
      cases e2
      rw [d1] at d2
      have z : Z.G2.al = Z.G1.al := by
        injection d2 with d2
        have := congrArg (fun a : Array Value => a[0]?) d2
        simpa using this
      exact ok.qn z.symm
  · obtain ⟨o, es, ep, e, d⟩ := A.n2
    exact ⟨o, es, ep, n2k o e, d⟩
  · refine keep _ _ lTI (fun j it => ?_) A.ti
    obtain ⟨o2, e2, c2, _⟩ := it
    have ti := A.ti
    rw [show s.heap.get? Z.TI = _ from ti] at e2
    cases e2
    exact absurd (show Value.type "tuple" = Value.type "list_iterator" from c2) (by decide)
  · obtain ⟨m, o, es, ep, e, r⟩ := A.c
    exact ⟨m, o, es, ep, keep _ o lC (fun j it => iter_not_dict it e r.1) e, r⟩
theorem kept1 (ok : Z.Ok X pins) (kt : Kept Z.G1 s s') {b : Addr} {o : Obj} (l : Z.G1.n0 < b) (e : s.heap.get? b = some o) (nc : o.cls ≠ .type "list_iterator") : s'.heap.get? b = some o :=
  kt.keep b o e (fun m => absurd (Nat.lt_trans (ok.o1.low b m) l) (Nat.lt_irrefl _)) (fun m => by
    rcases m with m | ⟨_, j, o', e', c', _⟩
    · exact absurd (m ▸ l) (Nat.lt_irrefl _)
    · rw [e] at e'
      cases e'
      exact nc c') fun z => absurd (Nat.lt_trans (z ▸ ok.o1.alow) l) (by rw [z]; exact Nat.lt_irrefl _)
theorem kept2 (ok : Z.Ok X pins) (kt : Kept Z.G2 s s') {b : Addr} {o : Obj} (l : Z.G2.n0 < b) (e : s.heap.get? b = some o) (nc : o.cls ≠ .type "list_iterator") : s'.heap.get? b = some o :=
  kt.keep b o e (fun m => absurd (Nat.lt_trans (ok.o2.low b m) l) (Nat.lt_irrefl _)) (fun m => by
    rcases m with m | ⟨_, j, o', e', c', _⟩
    · exact absurd (m ▸ l) (Nat.lt_irrefl _)
    · rw [e] at e'
      cases e'
      exact nc c') fun z => absurd (Nat.lt_trans (z ▸ ok.o2.alow) l) (by rw [z]; exact Nat.lt_irrefl _)
/-- behind the second's turn -/
theorem at_second (f : Z.Hf H) (ok : Z.Ok X pins) (A : Z.At X pins σ H i1 i2 s) (kt : Kept Z.G2 s s') {j : Nat} (as : Asleep Z.G2 j s') : Z.At X pins σ H i1 j s' := by
  obtain ⟨w1, w2, w3, w4, w5, w6, w7⟩ := ok.ord
  have low : ∀ {b : Addr}, Z.G1.n0 ≤ b → b ∉ frs Z.G2.outer := fun {b} l m => by
    have e : Z.G2.outer = Z.G1.outer := ok.s2.2.2.2.2.2.1.trans ok.s1.2.2.2.2.2.1.symm
    rw [e] at m
    exact absurd (ok.o1.low b m) (Nat.not_lt_of_le l)
  have nal : ∀ {b : Addr} {o : Obj}, s.heap.get? b = some o → o.cls ≠ .type "list" → b ≠ Z.G2.al := fun {b o} e nc z => by
    obtain ⟨_, its, n, _, hl⟩ := A.I.hok _ _ f.l2
    rw [z, hl] at e
    cases e
    exact nc rfl
  have lTI : Z.G2.n0 < Z.TI := Nat.lt_trans w3 w4
  have n1k : ∀ o, s.heap.get? Z.G1.n0 = some o → s'.heap.get? Z.G1.n0 = some o := fun o e => by
    obtain ⟨o', es, ep, e', d⟩ := A.n1
    refine kt.keep _ o e (low (Nat.le_refl _)) (fun m => ?_) fun z => ?_
    · rcases m with m | ⟨_, j, it⟩
      · exact absurd (m ▸ Nat.lt_trans w1 w2) (Nat.lt_irrefl _)
      · exact iter_not_dict it e' d
    · have q := f.free Z.G1.n0 (by simp)
      rw [z, f.l2] at q
      cases q
  refine ⟨inv_kept A.I ok.o2 ok.ab2 ok.s2.2.2.2.2.2.1 ok.s2.1 ok.s2.2.1 kt f.l2 (mine2 f ok A.I), A.a1.keep (kt.gens _ ok.g) fun c o m q => ?_, as, ?_, kt.there, ?_, ?_⟩
  · rcases m with m | m | ⟨lt, j, it⟩
    · rw [m] at q ⊢
      obtain ⟨o', nm, qn, e', r⟩ := A.a1.gen
      refine kt.keep _ o q (low (Nat.le_of_lt w1)) (fun m => ?_) fun z => ?_
      · rcases m with m | ⟨_, j, o2, e2, c2, _⟩
        · exact absurd (m ▸ w2) (Nat.lt_irrefl _)
        · rw [e'] at e2
          cases e2
          rw [r.1] at c2
          exact absurd c2 (by decide)
      · have q := f.free Z.G1.a (by simp)
        rw [z, f.l2] at q
        cases q
    · rw [m] at q ⊢
      exact n1k o q
    · refine kt.keep c o q (low (Nat.le_of_lt (Nat.lt_trans w1 lt))) (fun m => ?_) fun z => ?_
      · rcases m with m | ⟨_, j', it'⟩
        · obtain ⟨o', es, ep, e', d⟩ := A.n2
          exact iter_not_dict it (m ▸ e') d
        · obtain ⟨o1, e1, c1, d1⟩ := it
          obtain ⟨o2, e2, c2, d2⟩ := it'
          rw [e1] at e2
          cases e2
          rw [d1] at d2
          have z : Z.G1.al = Z.G2.al := by
            injection d2 with d2
            have := congrArg (fun a : Array Value => a[0]?) d2
            simpa using this
          exact ok.qn z
      · rw [z] at it
        exact lst_not_iter A.I.hok f.l2 it
  · obtain ⟨o, es, ep, e, d⟩ := A.n1
    exact ⟨o, es, ep, n1k o e, d⟩
  · exact kept2 ok kt lTI A.ti fun z => absurd (show Value.type "tuple" = Value.type "list_iterator" from z) (by decide)
  · obtain ⟨m, o, es, ep, e, r⟩ := A.c
    refine ⟨m, o, es, ep, kt.keep _ o e (low (Nat.le_of_lt (Nat.lt_trans w1 (Nat.lt_trans w2 (Nat.lt_trans lTI (Nat.lt_trans w5 (Nat.lt_trans w6 w7))))))) (fun m => ?_) (fun z => ?_), r⟩
    · rcases m with m | ⟨_, j, it⟩
      · exact absurd (m ▸ Nat.lt_trans lTI (Nat.lt_trans w5 (Nat.lt_trans w6 w7))) (Nat.lt_irrefl _)
      · exact iter_not_dict it e r.1
    · obtain ⟨_, its, n, _, hl⟩ := A.I.hok _ _ f.l2
      rw [z, hl] at e
      cases e
      cases r.1
/-- the next pair -/
theorem pair_next (f : Z.Hf H) (ok : Z.Ok X pins) (A : Z.At X pins σ H i1 i2 s) (hcalm : X.A.handled = none) (hroom : X.A.depth < recursionLimit) (hz : IsZip s.heap Z.z Z.TI Z.TO .none) (hTO : ∃ a b, IsPair s.heap Z.TO a b) {E : Value → Shared → Prop} {Q : Option Value → Shared → Prop}
    (item : ∀ (j1 j2 : Nat) (T : Addr) (v1 v2 : Nat) (t1 t2 : Tok) (s' : Shared), i1 = j1 + 1 → i2 = j2 + 1 → v1 = Z.G1.tot - i1 → v2 = Z.G2.tot - i2 → Z.At X pins σ H j1 j2 s' → IsZip s'.heap Z.z Z.TI Z.TO (rawInt T) → (∃ a b, IsPair s'.heap Z.TO a b) → IsPair s'.heap T (.int (Z.G1.val v1) t1) (.int (Z.G2.val v2) t2) → Z.C < T → Q (some (.ref T)) s')
    (done : i1 = 0 → ∀ s', Inv X pins σ H s' → (∃ m, s'.heap.Ns Z.C m) → Q none s') (same : i1 = i2) : wpAny (model X.prog X.w) X.A (pyNext (.ref Z.z)) Q E s := by
  obtain ⟨w1, w2, w3, w4, w5, w6, w7⟩ := ok.ord
  obtain ⟨a0, b0, hTO⟩ := hTO
  have nzt : Z.TO ≠ Z.z := Nat.ne_of_lt w6
  have lTO : Z.G1.n0 < Z.TO := Nat.lt_trans w1 (Nat.lt_trans w2 (Nat.lt_trans w3 (Nat.lt_trans w4 w5)))
  have lTO2 : Z.G2.n0 < Z.TO := Nat.lt_trans w3 (Nat.lt_trans w4 w5)
  have cz : ∀ {f0 : Value}, ({ cls := .type "zip", dict := none, data := .fields #[f0, .bool false, .bool false, .ref Z.TI, .ref Z.TO], slots := #[] } : Obj).cls ≠ .type "list_iterator" := fun {f0} q => absurd (show Value.type "zip" = Value.type "list_iterator" from q) (by decide)
  have cT : ∀ {x y : Value}, ({ cls := .type "tuple", data := .seq #[x, y] } : Obj).cls ≠ .type "list_iterator" := fun {x y} q => absurd (show Value.type "tuple" = Value.type "list_iterator" from q) (by decide)
  refine next_zip (a := a0) (b := b0) (Nat.ne_of_gt w6) hz A.ti fun h₁ hz₁ sb₁ => ?_
  have A1 : Z.At X pins σ H i1 i2 { s with heap := h₁ } := at_touch (t' := s.toks) f ok A ⟨_, hz, .inl cz⟩ ⟨_, hTO, .inl cT⟩ fun c o h1 _ e => (sb₁.2 c h1).trans e
  have hTO₁ : IsPair h₁ Z.TO a0 b0 := (sb₁.2 _ nzt).trans hTO
  have hw := wake_turn (A := X.A.in1) ok.o1 A1.a1 (e0_of A1.I ok.s1 f.l1) ok.s1.2.2.2.2.2.2.1 hcalm hroom
  rw [ok.s1.1, ok.s1.2.1] at hw
  refine wpAny_mono hw (fun x s₂ hh => ?_) fun x s₂ hh => ?_
  · obtain ⟨m, i, hn, hi, ⟨t, ev⟩, kt, as⟩ := hh
    have A2 := at_first f ok A1 kt as
    have hz₂ : IsZip s₂.heap Z.z Z.TI Z.TO .ellipsis := kept1 ok kt (Nat.lt_trans lTO w6) hz₁ cz
    have hTO₂ : IsPair s₂.heap Z.TO a0 b0 := kept1 ok kt lTO hTO₁ cT
    refine ⟨hz₂, hTO₂, fun h₃ sb₃ hTO₃ => ?_⟩
    have A3 : Z.At X pins σ H m i2 { s₂ with heap := h₃ } := at_touch (t' := s₂.toks) f ok A2 ⟨_, hz₂, .inl cz⟩ ⟨_, hTO₂, .inl cT⟩ fun c o _ h1 e => (sb₃.2 c h1).trans e
    have hz₃ : IsZip h₃ Z.z Z.TI Z.TO .ellipsis := (sb₃.2 _ (Ne.symm nzt)).trans hz₂
    have hw2 := wake_turn (A := X.A.in1) ok.o2 A3.a2 (e0_of A3.I ok.s2 f.l2) ok.s2.2.2.2.2.2.2.1 hcalm hroom
    rw [ok.s2.1, ok.s2.2.1] at hw2
    refine wpAny_mono hw2 (fun y s₄ hh => ?_) fun y s₄ hh => ?_
    · obtain ⟨m2, i', hn2, hi2, ⟨t2, ev2⟩, kt2, as2⟩ := hh
      have A4 := at_second f ok A3 kt2 as2
      have hz₄ : IsZip s₄.heap Z.z Z.TI Z.TO .ellipsis := kept2 ok kt2 (Nat.lt_trans lTO2 w6) hz₃ cz
      have hTO₄ : IsPair s₄.heap Z.TO x b0 := kept2 ok kt2 lTO2 hTO₃ cT
      refine ⟨hz₄, hTO₄, fun h' hz' hTO' hT' k' => ?_⟩
      have A5 : Z.At X pins σ H m m2 { s₄ with heap := h' } := at_touch (t' := s₄.toks) f ok A4 ⟨_, hz₄, .inl cz⟩ ⟨_, hTO₄, .inl cT⟩ k'
      subst ev ev2
      obtain ⟨mm, hns⟩ := A4.c
      exact item m m2 s₄.heap.objs.size i i' t t2 _ hn hn2 (by omega) (by omega) A5 hz' ⟨_, _, hTO'⟩ hT' hns.lt
    · exact absurd hh.1 (by omega)
  · obtain ⟨hn0, b, o, eb, ho, hc, kt⟩ := hh
    subst eb
    have hz₂ : IsZip s₂.heap Z.z Z.TI Z.TO .ellipsis := kept1 ok kt (Nat.lt_trans lTO w6) hz₁ cz
    have I2 : Inv X pins σ H s₂ := inv_kept A1.I ok.o1 ok.ab1 ok.s1.2.2.2.2.2.1 ok.s1.1 ok.s1.2.1 kt f.l1 (mine1 f ok A1.I)
    have nb : b ≠ Z.z := fun q => by
      rw [q, show s₂.heap.get? Z.z = _ from hz₂] at ho
      cases ho
      exact absurd (show Value.type "zip" = Value.type "StopIteration" from hc) (by decide)
    refine ⟨hz₂, fun h sb => ⟨b, o, rfl, (sb.2 b nb).trans ho, hc, done hn0 _ ?_ ?_⟩⟩
    · exact I2.turnedL (t' := s₂.toks) (ch := [Z.z, Z.TO]) (fun c o hb q => (sb.2 c fun z => hb (by simp [z])).trans q) (fp_zip f ok)
    · obtain ⟨mm, o', es, ep, e, r⟩ := A1.c
      have lC : Z.G1.n0 < Z.C := Nat.lt_trans lTO (Nat.lt_trans w6 w7)
      refine ⟨mm, o', es, ep, (sb.2 _ (Nat.ne_of_gt w7)).trans (kt.keep _ _ e (fun q => absurd (Nat.lt_trans (ok.o1.low _ q) lC) (Nat.lt_irrefl _)) (fun q => ?_) fun q => absurd (Nat.lt_trans (q ▸ ok.o1.alow) lC) (by rw [q]; exact Nat.lt_irrefl _)), r⟩
      rcases q with q | ⟨_, j, it⟩
      · exact absurd (q ▸ lC) (Nat.lt_irrefl _)
      · exact iter_not_dict it e r.1
end
end Sq
set_option Elab.async false
set_option linter.all false
set_option maxRecDepth 100000
set_option maxHeartbeats 2000000
/-! A comprehension over zip of two generators: its loop. -/
namespace Sq
open PySem PySem.Spec PyProof.Rows L2 GenW
section
variable {Z : Zx} {X : Cx} {pins : List (Addr × Obj)} {σ : L2.St} {H H' : Hp} {i1 i2 : Nat} {s s' : Shared}
theorem at_move {ch : List Addr} (ok : Z.Ok X pins) (A : Z.At X pins σ H i1 i2 s) (I' : Inv X pins σ H' s') (hg : s'.gens = s.gens) (hc : ∃ m, s'.heap.Ns Z.C m) (k : ∀ c o, c ∉ ch → s.heap.get? c = some o → s'.heap.get? c = some o)
    (big : ∀ b ∈ ch, Z.TI < b) (sol : ∀ b ∈ ch, Solid s.heap b) : Z.At X pins σ H' i1 i2 s' := by
  obtain ⟨w1, w2, w3, w4, w5, w6, w7⟩ := ok.ord
  have lo : ∀ {c : Addr} {o : Obj}, c ≤ Z.TI → s.heap.get? c = some o → s'.heap.get? c = some o := fun {c o} l e => k c o (fun m => absurd (big c m) (Nat.not_lt_of_le l)) e
  have noit : ∀ {c al : Addr} {j : Nat} {o : Obj}, s.heap.IsListIter c al j → s.heap.get? c = some o → s'.heap.get? c = some o := fun {c al j o} i e => k c o (fun m => by
    obtain ⟨o1, e1, no⟩ := sol c m
    obtain ⟨o', e', c', d'⟩ := i
    rw [e1] at e'
    cases e'
    rcases no with no | ⟨es, ep, no⟩
    · exact no c'
    · rw [no] at d'
      cases d') e
  have g2a : Z.G2.a ≤ Z.TI := Nat.le_of_lt w4
  have g2n : Z.G2.n0 ≤ Z.TI := Nat.le_of_lt (Nat.lt_trans w3 w4)
  have g1a : Z.G1.a ≤ Z.TI := Nat.le_of_lt (Nat.lt_trans w2 (Nat.lt_trans w3 w4))
  have g1n : Z.G1.n0 ≤ Z.TI := Nat.le_of_lt (Nat.lt_trans w1 (Nat.lt_trans w2 (Nat.lt_trans w3 w4)))
  refine ⟨I', A.a1.keep (by rw [hg]) fun c o m q => ?_, A.a2.keep (by rw [hg]) fun c o m q => ?_, ?_, ?_, lo (Nat.le_refl _) A.ti, hc⟩
  · rcases m with m | m | ⟨_, j, it⟩
    · exact lo (m ▸ g1a) q
    · exact lo (m ▸ g1n) q
    · exact noit it q
  · rcases m with m | m | ⟨_, j, it⟩
    · exact lo (m ▸ g2a) q
    · exact lo (m ▸ g2n) q
    · exact noit it q
  · obtain ⟨o, es, ep, e, d⟩ := A.n1
    exact ⟨o, es, ep, lo g1n e, d⟩
  · obtain ⟨o, es, ep, e, d⟩ := A.n2
    exact ⟨o, es, ep, lo g2n e, d⟩
theorem solid_ns {h : Heap} {b : Addr} {m : Str → Option Value} (n : h.Ns b m) : Solid h b := by
  obtain ⟨o, es, ep, e, r⟩ := n
  exact ⟨o, e, .inr ⟨es, ep, r.1⟩⟩
def prs (v1 v2 : Nat → Int) (k : Nat) : List (List Int) := (List.range k).map fun i => [v1 i, v2 i]
theorem fp_big {b : Addr} (ok : Z.Ok X pins) (l : Z.G1.n0 < b) (hf : H b = none) : FpOk X pins H b :=
  ⟨hf, Nat.ne_of_gt (Nat.lt_trans ok.ab1.loc l), fun m => absurd (Nat.lt_trans (ok.fs b m) l) (Nat.lt_irrefl _), .inr (Nat.le_of_lt (Nat.lt_of_le_of_lt ok.ab1.young l)), fun x c e z => absurd z (Nat.ne_of_lt (Nat.lt_trans (ok.ab1.cell x c e) l)), fun p hp z => absurd z (Nat.ne_of_lt (Nat.lt_trans (ok.ab1.pin p hp) l))⟩
/-- the loop's state -/
def Zx.Lp (Z : Zx) (X : Cx) (pins : List (Addr × Obj)) (σ : L2.St) (Hs : Hp) (D : Addr) (tot n : Nat) (s : Shared) : Prop := ∃ (H : Hp) (rows : List Addr), Z.Hf H ∧ Z.At X pins σ H n n s ∧ n ≤ tot ∧ IsZip s.heap Z.z Z.TI Z.TO .none ∧ (∃ a b, IsPair s.heap Z.TO a b) ∧
  H D = some (.lst (rows.map V.ref)) ∧ rows.length = tot - n ∧ RowsAt H rows (prs Z.G1.val Z.G2.val (tot - n)) ∧ ∀ b o, Hs b = some o → b ≠ D → H b = some o
theorem zip_loop {x1 x2 : Str} {p1 p2 p3 p4 lp tpos pos : Pos} {kk tot : Nat} {iter : Expr} {scope : Scope} {ce : Env} {R : Result → Shared → Prop} {Hs : Hp} {D : Addr} (ok : Z.Ok X pins) (hcalm : X.A.handled = none) (hroom : X.A.depth < recursionLimit) (e1 : Z.G1.tot = tot) (e2 : Z.G2.tot = tot) (few : tot < 1000) (zD : Z.z < D) (DC : D < Z.C)
    (eC : ce.locals = Z.C) (hk : ce.scope.kind = .function) (k1 : ce.kindOf x1 = some .local) (k2 : ce.kindOf x2 = some .local) (ne : x1 ≠ x2) (d1 : (x1 == ("__debug__" : Str)) = false) (d2 : (x2 == ("__debug__" : Str)) = false)
    (fin : ∀ s' H rows, Inv X pins σ H s' → (∃ m, s'.heap.Ns Z.C m) → H D = some (.lst (rows.map V.ref)) → RowsAt H rows (prs Z.G1.val Z.G2.val tot) → (∀ b o, Hs b = some o → b ≠ D → H b = some o) → H Z.C = none → R (.ok .next) s') (h : Z.Lp X pins σ Hs D tot tot s) :
    codeAny (model X.prog X.w) X.A (.compLoop (.ListComp (.List [.Name x1 p1, .Name x2 p2] lp) [⟨.Tuple [.Name x1 p3, .Name x2 p4] kk tpos, iter, [], 0⟩] scope pos) 0 (.ref Z.z) (.ref D) ce) R s := by
  obtain ⟨w1, w2, w3, w4, w5, w6, w7⟩ := ok.ord
  refine compLoop_any (fun n s' => Z.Lp X pins σ Hs D tot n s') (fun n s1 h1 => ?_) tot h
  obtain ⟨H, rows, f, A, le, hz, hTO, hD, hrl, hrows, keep⟩ := h1
  refine pair_next f ok A hcalm hroom hz hTO (fun j1 j2 T v1 v2 t1 t2 s2 eq1 eq2 ev1 ev2 A2 hz2 hTO2 hT lT => ?_) (fun e0 s2 I2 hns => ?_) rfl
  · subst eq1
    obtain rfl : j1 = j2 := by omega
    have TIz : Z.TI < Z.z := Nat.lt_trans w5 w6
    have nz : IsZip s2.heap Z.z Z.TI Z.TO (rawInt T) := hz2
    have solz : Solid s2.heap Z.z := ⟨_, nz, .inl fun q => absurd (show Value.type "zip" = Value.type "list_iterator" from q) (by decide)⟩
    show wpAny _ _ (letOwnedTupleGo (.Tuple [.Name x1 p3, .Name x2 p4] kk tpos) (.ref Z.z) (.ref T)) _ _ s2
    refine wpAny_letOwnedTupleGo_zip hz2 fun h3 hz3 sb3 => ?_
    have fpz := fp_zip f ok
    have kz : ∀ c o, c ∉ [Z.z] → s2.heap.get? c = some o → h3.get? c = some o := fun c o m e => (sb3.2 c fun z => m (by simp [z])).trans e
    obtain ⟨mC, hC⟩ := A2.c
    have hC3 : h3.Ns Z.C mC := hC.extBut (fun c o m e => (sb3.2 c m).trans e) (Nat.ne_of_gt w7)
    have I3 : Inv X pins σ H { s2 with heap := h3 } := A2.I.turnedL (t' := s2.toks) (ch := [Z.z]) kz fun b hb => fpz b (by
      have : b = Z.z := by simpa using hb
      simp [this])
    have A3 : Z.At X pins σ H j1 j1 { s2 with heap := h3 } := at_move (ch := [Z.z]) ok A2 I3 rfl ⟨mC, hC3⟩ kz (fun b hb => by
      have : b = Z.z := by simpa using hb
      rw [this]
      exact TIz) fun b hb => by
      have : b = Z.z := by simpa using hb
      rw [this]
      exact solz
    have hT3 : IsPair h3 T (.int (Z.G1.val v1) t1) (.int (Z.G2.val v2) t2) := (sb3.2 T (Nat.ne_of_gt (Nat.lt_trans w7 lT))).trans hT
    obtain ⟨ta, tb, hTO⟩ := hTO2
    have hTO3 : IsPair h3 Z.TO ta tb := (sb3.2 _ (Nat.ne_of_lt w6)).trans hTO
    refine assign_Tuple_tuple hcalm (items := #[.int (Z.G1.val v1) t1, .int (Z.G2.val v2) t2]) ⟨_, hT3, rfl, _, rfl⟩ rfl rfl fun h4 hx4 => ?_
    have k4 : ∀ c o, h3.get? c = some o → h4.get? c = some o := fun c o e => hx4 c o (Nat.ne_of_lt (Heap.lt_size e)) e
    have hC4 : h4.Ns Z.C mC := hC3.extBut (fun c o _ e => k4 c o e) (Nat.ne_of_lt (Nat.lt_succ_self _))
    have cls : (ce.scope.kind == .class || (ce.scope.kind == .module && ce.locals != ce.globals)) = false := by
      rw [hk]
      rfl
    show wpAny _ _ (assignInOrder [assign (.Name x1 p3) ce, assign (.Name x2 p4) ce] [.int (Z.G1.val v1) t1, .int (Z.G2.val v2) t2]) _ _ _
    refine assignInOrder_cons (wpAny_assign_Name (wpAny_storeName_local k1 (by rw [eC]; exact hC4) (fun h5 hC5 sb5 => ?_) cls))
    refine assignInOrder_cons (wpAny_assign_Name (wpAny_storeName_local k2 hC5 (fun h6 hC6 sb6 => ?_) cls))
    refine assignInOrder_nil (wpAny_tests_nil ?_)
    rw [if_pos rfl]
    have m2 : (fun x => if x = x2 then some (Value.int (Z.G2.val v2) t2) else if x = x1 then some (Value.int (Z.G1.val v1) t1) else mC x) x1 = some (Value.int (Z.G1.val v1) t1) := by
      show (if x1 = x2 then _ else if x1 = x1 then _ else _) = _
      rw [if_neg ne, if_pos rfl]
    have m3 : (fun x => if x = x2 then some (Value.int (Z.G2.val v2) t2) else if x = x1 then some (Value.int (Z.G1.val v1) t1) else mC x) x2 = some (Value.int (Z.G2.val v2) t2) := if_pos rfl
    refine wpAny_List_spliced ?_
    show wpAny _ _ (spliced ((false, eval (.Name x1 p1) ce) :: backTo lp (starEach [.Name x2 p2] ce))) _ _ _
    refine Calls.spliced_cons (wpAny_Name (wpAny_loadName_local hk k1 hC6 m2 ?_) d1)
    show wpAny _ _ (spliced ((false, eval (.Name x2 p2) ce) :: backTo lp (starEach [] ce))) _ _ _
    refine Calls.spliced_cons (wpAny_Name (wpAny_loadName_local hk k2 hC6 m3 ?_) d2)
    refine Calls.spliced_nil ⟨by show 2 ≤ sizeLine; rw [sizeLine_eq]; decide, ?_⟩
    rw [eC] at sb5 sb6 hC6
    have k6 : ∀ c o, c ∉ [Z.z, Z.C] → s2.heap.get? c = some o → h6.get? c = some o := fun c o m e => (sb6.2 c fun z => m (by simp [z])).trans ((sb5.2 c fun z => m (by simp [z])).trans (k4 c o (kz c o (fun z => m (by simp at z; simp [z])) e)))
    have nC : Z.G1.n0 < Z.C := Nat.lt_trans w1 (Nat.lt_trans w2 (Nat.lt_trans w3 (Nat.lt_trans w4 (Nat.lt_trans TIz w7))))
    have I6 : Inv X pins σ H { s2 with heap := h6, toks := s2.toks + 1 + 1 } := A2.I.turnedL (t' := s2.toks + 1 + 1) (ch := [Z.z, Z.C]) k6 fun b hb => by
      have e : b = Z.z ∨ b = Z.C := by simpa using hb
      rcases e with e | e
      · exact fpz b (by simp [e])
      · exact fp_big ok (e ▸ nC) (f.free b (by simp [e]))
    obtain ⟨r, er⟩ : ∃ r, r = h6.objs.size := ⟨_, rfl⟩
    have rC : Z.C < r := by
      rw [er]
      exact hC6.lt
    have rf : H r = none := by
      rw [er]
      exact I6.hok.fresh (Nat.le_refl _)
    have I7 : Inv X pins σ (upd H r (.lst [.int (Z.G1.val v1), .int (Z.G2.val v2)])) { s2 with heap := h6.push { cls := .type "list", data := .seq [Value.int (Z.G1.val v1) t1, Value.int (Z.G2.val v2) t2].toArray }, toks := s2.toks + 1 + 1 } := by
      rw [er]
      exact I6.laid (t' := s2.toks + 1 + 1) (fun b u e => Heap.get?_push_of_some _ e) (Nat.le_refl _) ⟨by show 2 ≤ sizeLine; rw [sizeLine_eq]; decide, [.int (Z.G1.val v1) t1, .int (Z.G2.val v2) t2], 0, .cons ⟨_, rfl⟩ (.cons ⟨_, rfl⟩ .nil), Heap.get?_push_size _ rfl⟩
    have nDr : D ≠ r := ne_of_none hD rf
    have hD7 : (upd H r (.lst [.int (Z.G1.val v1), .int (Z.G2.val v2)])) D = some (.lst (rows.map V.ref)) := by
      rw [upd_ne nDr]
      exact hD
    obtain ⟨hz', its, nn, ri, e⟩ := I7.hok D _ hD7
    have hl := ri.length
    rw [List.length_map] at hl
    refine append_at (hsz := by rw [List.size_toArray, ← hl, sizeLine_eq]; omega) e fun h8 sb8 ho8 => ?_
    have zD' : Z.z ≠ D := Nat.ne_of_lt zD
    have k8 : ∀ c o, c ∉ [Z.z, Z.C, D] → s2.heap.get? c = some o → h8.get? c = some o := fun c o m e => (sb8.2 c fun z => m (by simp [z])).trans (Heap.get?_push_of_some _ (k6 c o (fun z => m (by
      simp at z ⊢
      rcases z with z | z
      · exact .inl z
      · exact .inr (.inl z))) e))
    have h68 : ∀ c o, c ≠ D → h6.get? c = some o → h8.get? c = some o := fun c o m e => (sb8.2 c m).trans (Heap.get?_push_of_some _ e)
    have zC : Z.z ≠ Z.C := Nat.ne_of_lt w7
    have TOC : Z.TO ≠ Z.C := Nat.ne_of_lt (Nat.lt_trans w6 w7)
    have h36 : ∀ c o, c ≠ Z.C → h3.get? c = some o → h6.get? c = some o := fun c o m e => (sb6.2 c m).trans ((sb5.2 c m).trans (k4 c o e))
    obtain ⟨w', hw'⟩ : ∃ w', w' = upd (upd H r (.lst [.int (Z.G1.val v1), .int (Z.G2.val v2)])) D (.lst (rows.map V.ref ++ [.ref r])) := ⟨_, rfl⟩
    have vr : Vals [V.ref r] [Value.ref r] := .cons rfl .nil
    have I8 := I7.write (x := D) (e := D) (o := .lst (rows.map V.ref ++ [.ref r])) (h' := h8) (t' := s2.toks + 1 + 1) (by rw [hD7]; trivial) (.inl rfl) (fun b u hb q => (sb8.2 b hb).trans q) ⟨_, ho8⟩ ⟨by rw [List.length_append, List.length_map, sizeLine_eq]; show rows.length + 1 ≤ _; omega, its ++ [Value.ref r], nn + 1, ri.append vr, by
      rw [ho8, ← er]
      simp⟩
    rw [← hw'] at I8
    have low : ∀ {b : Addr}, b ≤ Z.z → b ≠ D ∧ b ≠ r := fun {b} l => ⟨Nat.ne_of_lt (Nat.lt_of_le_of_lt l zD), Nat.ne_of_lt (Nat.lt_of_le_of_lt l (Nat.lt_trans w7 rC))⟩
    have hw : ∀ {b : Addr}, b ≠ D → b ≠ r → w' b = H b := fun {b} h1 h2 => by
      rw [hw', upd_ne h1, upd_ne h2]
    have hwD : w' D = some (.lst ((rows ++ [r]).map V.ref)) := by
      rw [hw', upd_same, List.map_append]
      rfl
    have alz : Z.G1.al ≤ Z.z ∧ Z.G2.al ≤ Z.z := by
      have h1 := Nat.le_of_lt (Nat.lt_trans ok.o2.alow (Nat.lt_trans w3 (Nat.lt_trans w4 TIz)))
      exact ⟨Nat.le_of_lt (Nat.lt_trans ok.o1.alow (Nat.lt_trans w1 (Nat.lt_trans w2 (Nat.lt_trans w3 (Nat.lt_trans w4 TIz))))), h1⟩
    have hf' : Z.Hf w' := ⟨(hw (low alz.1).1 (low alz.1).2).trans f.l1, (hw (low alz.2).1 (low alz.2).2).trans f.l2, fun b u l e => by
      by_cases h1 : b = D
      · rw [h1, hwD] at e
        cases e
        exact ⟨_, rfl⟩
      · by_cases h2 : b = r
        · rw [h2, hw', upd_ne (Ne.symm nDr), upd_same] at e
          cases e
          exact ⟨_, rfl⟩
        · rw [hw h1 h2] at e
          exact f.young b u l e, fun b hb => by
      have hH := f.free b hb
      refine (hw (fun q => ?_) (fun q => ?_)).trans hH
      · rw [q, hD] at hH
        cases hH
      · have lb : b ≤ Z.C := by
          simp at hb
          have c1 := Nat.le_of_lt (Nat.lt_trans TIz w7)
          have c2 := Nat.le_trans (Nat.le_of_lt w4) c1
          have c3 := Nat.le_trans (Nat.le_of_lt w3) c2
          have c4 := Nat.le_trans (Nat.le_of_lt w2) c3
          have c5 := Nat.le_trans (Nat.le_of_lt w1) c4
          rcases hb with z | z | z | z | z | z | z | z <;> rw [z]
          · exact c5
          · exact c4
          · exact c3
          · exact c2
          · exact c1
          · exact Nat.le_of_lt (Nat.lt_trans w6 w7)
          · exact Nat.le_of_lt w7
          · exact Nat.le_refl _
        exact absurd (Nat.lt_of_le_of_lt lb rC) (by rw [q]; exact Nat.lt_irrefl _)⟩
    have offD : D ∉ rows := fun m => by
      obtain ⟨q, hq⟩ := List.mem_iff_getElem?.mp m
      have lq : q < (prs Z.G1.val Z.G2.val (tot - (j1 + 1))).length := by
        rw [← hrows.len]
        exact (List.getElem?_eq_some_iff.mp hq).1
      obtain ⟨a', ha', hac⟩ := hrows.get (List.getElem?_eq_getElem lq)
      rw [hq] at ha'
      cases ha'
      rw [hD] at hac
      have e2 := HO.lst.inj (Option.some.inj hac)
      obtain ⟨kq, _, ek⟩ := List.mem_map.mp (List.getElem_mem lq)
      rw [← ek] at e2
      cases rows with
      | nil => cases m
      | cons x xs => cases e2
    refine ⟨j1, Nat.lt_succ_self _, w', rows ++ [r], hf', ?_, by omega, ?_, ?_, hwD, by rw [List.length_append, hrl]; show _ + 1 = _; omega, ?_, fun b o q nb => ?_⟩
    · refine at_move (ch := [Z.z, Z.C, D]) ok A2 I8 rfl ⟨_, hC6.extBut (b := D) (fun c o m e => h68 c o m e) (Nat.ne_of_gt DC)⟩ k8 (fun b hb => ?_) fun b hb => ?_
      · have e : b = Z.z ∨ b = Z.C ∨ b = D := by simpa using hb
        rcases e with e | e | e <;> rw [e]
        · exact TIz
        · exact Nat.lt_trans TIz w7
        · exact Nat.lt_trans TIz zD
      · have e : b = Z.z ∨ b = Z.C ∨ b = D := by simpa using hb
        rcases e with e | e | e <;> rw [e]
        · exact solz
        · exact solid_ns hC
        · obtain ⟨_, its', nn', _, hl'⟩ := A2.I.hok D _ hD
          exact ⟨_, hl', .inl fun q => absurd (show Value.type "list" = Value.type "list_iterator" from q) (by decide)⟩
    · exact h68 _ _ zD' (h36 _ _ zC hz3)
    · exact ⟨_, _, h68 _ _ (Nat.ne_of_lt (Nat.lt_trans w6 zD)) (h36 _ _ TOC hTO3)⟩
    · have ev : tot - j1 = (tot - (j1 + 1)) + 1 := by omega
      rw [ev]
      unfold prs
      rw [List.range_succ, List.map_append]
      have v12 : v1 = tot - (j1 + 1) ∧ v2 = tot - (j1 + 1) := by omega
      have sm : RowsAt w' rows (prs Z.G1.val Z.G2.val (tot - (j1 + 1))) := by
        rw [hw']
        exact RowsAt.upd (RowsAt.same (same_new rf) hrows) offD
      refine RowsAt.app sm ⟨?_, trivial⟩
      rw [hw', upd_ne (Ne.symm nDr), upd_same, v12.1, v12.2]
      rfl
    · rw [hw nb (ne_of_none (keep b o q nb) rf)]
      exact keep b o q nb
  · subst e0
    exact fin s2 H rows I2 hns hD (by rw [Nat.sub_zero] at hrows; exact hrows) keep (f.free _ (by simp))
end
end Sq
set_option Elab.async false
set_option linter.all false
set_option maxRecDepth 100000
set_option maxHeartbeats 2000000
/-! A generator's call within an expression. -/
namespace Sq
open PySem PySem.Spec PyProof.Rows L2 GenW
section
variable {X : Cx} {pins : List (Addr × Obj)} {σ : L2.St} {H : Hp} {s : Shared} {k : Nat} {f : Addr} {fd : FuncData} {ps : List Str} {sp : SpX} {x : Str} {p cpos : Pos} {e : Expr} {es : List Expr} {t : TA}
theorem env0_al {al : Addr} {ns : List Int} (I : Inv X pins σ H s) (l : H al = some (.lst (ns.map V.int))) : Env0 X.prog X.w X.K X.mg X.base X.A X.stack s (alH al ns) := by
  have e := I.env0
  have ne : ∀ {b : Addr}, H b = none → alH al ns b = none := fun {b} h => alH_ne fun z => by
    rw [z, l] at h
    cases h
  refine ⟨e.frames, e.mod, fun b o q => ⟨(e.bs b o q).1, ne (e.bs b o q).2⟩, e.bsz, e.funs, fun b hb => ne (e.frf b hb), fun b u q => ?_, e.bare⟩
  by_cases hb : b = al
  · subst hb
    rw [alH_at] at q
    cases q
    obtain ⟨z, its, m, r, eo⟩ := e.hok _ _ l
    exact ⟨z, its, m, r, eo⟩
  · rw [alH_ne hb] at q
    cases q
theorem x_call (F : GFnX X.prog X.w X.K X.mg X.base k f fd ps sp) (hr : Room k X.A) (hg : Gl X x) (hm : X.mg x = some (.ref f)) (hk : PySem.W.keepIn X.K (.ref f) = true) (hb : Binds X.K fd ps []) (ha : GA X (e :: es) t) {Q : Addr → List Int → Nat → (Nat → Int) → Hp → Prop}
    (I : Inv X pins σ H s) (h : t σ H fun vs H1 => ∃ al ns tot val, sp vs al ns tot val ∧ H1 al = some (.lst (ns.map V.int)) ∧ Q al ns tot val H1) (hdb : (x == ("__debug__" : Str)) = false := by decide)
    (he : starEach (e :: es) X.env = (false, eval e X.env) :: starEach es X.env := by rfl) (hpl : (backTo cpos (starEach es X.env)).any (·.1) = false := by rfl) :
    wpAny (model X.prog X.w) X.A (eval (.Call (.Name x p) (e :: es) [] cpos) X.env) (fun u s2 => ∃ (s1 : Shared) (H1 : Hp) (al : Addr) (ns : List Int) (tot : Nat) (val : Nat → Int), s1.gens = s.gens ∧ Inv X pins σ H1 s1 ∧ XMade X.prog X.w X.K X.mg X.base k X.stack s1 al ns tot val u s2 ∧ Inv X pins σ H1 s2 ∧ H1 al = some (.lst (ns.map V.int)) ∧ Q al ns tot val H1) X.xe s := by
  refine wpAny_Call_Name_kw (ld_glob I hg hm ?_ hdb)
  refine PySem.W.callWith_K (h₀ := X.base) I.ok.mod.kin hk (thn (ha.run cpos pins s σ H _ I h) fun us s1 hh => ?_) he hpl
  obtain ⟨g1, vs, H1, I1, r1, al, ns, tot, val, q, hal, hQ⟩ := hh
  refine ⟨I1.kIn, ?_⟩
  have few : us.length = ps.length := by rw [← r1.length]; exact F.len _ _ _ _ _ q
  have bind := hb s1 us I1.kIn (by rw [List.append_nil]; exact few)
  rw [List.append_nil] at bind
  refine wpAny_call (codeAny_mono (F.run X.A X.stack s1 ⟨us, []⟩ us vs al ns tot val hr (env0_al I1 hal) bind r1 q) fun r s2 hq => ?_)
  match r, hq with
  | .ok (.ret u), hq =>
    have hq' := hq
    obtain ⟨a, code, eu, la, isG, eg, eo, lim, keep, n0, bare, sz, wake⟩ := hq'
    refine ⟨s1, H1, al, ns, tot, val, g1, I1, hq, ?_, hal, hQ⟩
    exact I1.call' (ch := []) eo (Un.kept keep) (I1.hok.kept keep) (by rw [eg]; exact AllBare.push I1.bare bare) fun b z => by simp at z
end
end Sq
set_option Elab.async false
set_option linter.all false
set_option maxRecDepth 100000
set_option maxHeartbeats 2000000
/-! Two generators stand ready. -/
namespace Sq
open PySem PySem.Spec PyProof.Rows L2 GenW
section
variable {X : Cx} {pins : List (Addr × Obj)} {σ : L2.St} {H1 H2 H3 : Hp} {s1 s1' s2 s2' s3 : Shared} {k : Nat} {al1 al2 : Addr} {ns1 ns2 : List Int} {tot : Nat} {val1 val2 : Nat → Int} {u1 u2 : Value}
theorem fresh_asleep {P : Program} {w : World} {K : PySem.W.Frag} {mg : Str → Option Value} {base : Heap} {outer : List Env} {s s' s3 : Shared} {al : Addr} {ns : List Int} {val : Nat → Int} {u : Value} {A : Around} (M : XMade P w K mg base k outer s al ns tot val u s') (room : Room k A) (fr : A.frames = some outer)
    (hg : s3.gens[s.gens.size]? = s'.gens[s.gens.size]?) (kp : ∀ b o, (u = .ref b ∨ b = s.heap.objs.size) → s'.heap.get? b = some o → s3.heap.get? b = some o) :
    ∃ G : Xg, G.Ok ∧ u = .ref G.a ∧ (G.P = P ∧ G.w = w ∧ G.K = K ∧ G.mg = mg ∧ G.base = base ∧ G.outer = outer ∧ G.A = A ∧ G.A.frames = some outer) ∧ G.n0 = s.heap.objs.size ∧ G.g = s.gens.size ∧ G.al = al ∧ G.ns = ns ∧ G.tot = tot ∧ G.val = val ∧ s'.heap.objs.size = G.a + 1 ∧ Asleep G tot s3 ∧ ∃ o es ep, s3.heap.get? G.n0 = some o ∧ o.data = .dict es ep := by
  obtain ⟨a, code, eu, la, isG, eg, eo, lim, keep, n0, bare, sz, wake⟩ := M
  obtain ⟨G, ok, e1, e2, e3, e4, e5, e6, e7, e8, e9, e10, e11, e12, e13, e14, seg⟩ := wake A room fr
  have an : s.heap.objs.size ≤ a := Nat.le_of_lt la
  have own : ∀ {t : Heap}, (∀ b, Mine s'.heap s.heap.objs.size a al b → b = s.heap.objs.size) := fun {t} b m => by
    rcases m with m | ⟨m, j, o, eo', _⟩
    · exact m
    · have := Heap.lt_size eo'
      rw [sz] at this
      exact absurd (Nat.lt_of_lt_of_le m (Nat.le_of_lt_succ this)) (Nat.lt_irrefl _)
  have g3 : s3.heap.IsGen a s.gens.size := by
    obtain ⟨o, nm, qn, ho, r⟩ := isG
    exact ⟨o, nm, qn, kp _ _ (.inl eu) ho, r⟩
  refine ⟨G, ok, by rw [e9]; exact eu, ⟨e1, e2, e3, e4, e5, e7, e6, by rw [e6]; exact fr⟩, e8, e10, e11, e12, e13, e14, by rw [e9]; exact sz, ⟨by rw [e9, e10]; exact g3, .fresh code, ?_, fun s2 e own2 => ?_⟩, ?_⟩
  · rw [e10, hg, eg]
    exact Array.getElem?_push_size ..
  · refine ⟨rfl, ?_⟩
    have sg := seg s2 e fun b o m q => own2 b o ?_ (kp b o ?_ q)
    · rw [e13] at sg
      exact sg
    · rcases m with m | m
      · exact .inl (m.trans e9.symm)
      · exact .inr (.inl ((own (t := s.heap) b m).trans e8.symm))
    · rcases m with m | m
      · rw [m]
        exact .inl eu
      · exact .inr (own (t := s.heap) b m)
  · obtain ⟨o, es, ep, ho, hd⟩ := n0
    rw [e8]
    exact ⟨o, es, ep, kp _ _ (.inr rfl) ho, hd⟩
theorem zx_start (I1 : Inv X pins σ H1 s1) (M1 : XMade X.prog X.w X.K X.mg X.base k X.stack s1 al1 ns1 tot val1 u1 s1') (I2 : Inv X pins σ H2 s2) (g2 : s2.gens = s1'.gens) (kp : ∀ b o, (u1 = .ref b ∨ b = s1.heap.objs.size) → s1'.heap.get? b = some o → s2.heap.get? b = some o)
    (M2 : XMade X.prog X.w X.K X.mg X.base k X.stack s2 al2 ns2 tot val2 u2 s2') (g3 : s3.gens = s2'.gens) (k3 : ∀ b o, s2'.heap.get? b = some o → s3.heap.get? b = some o) (room : Room k X.A.in1.in1) (fr : X.A.in1.in1.frames = some X.stack) (ne : al1 ≠ al2) :
    ∃ G1 G2 : Xg, u1 = .ref G1.a ∧ u2 = .ref G2.a ∧ G1.n0 = s1.heap.objs.size ∧ G2.n0 = s2.heap.objs.size ∧ s2'.heap.objs.size = G2.a + 1 ∧ G1.al = al1 ∧ G1.ns = ns1 ∧ G1.tot = tot ∧ G1.val = val1 ∧ G2.al = al2 ∧ G2.ns = ns2 ∧ G2.tot = tot ∧ G2.val = val2 ∧ G1.a < G2.n0 ∧ (∀ TI TO z C, G2.a < TI → TI < TO → TO < z → z < C → Zx.Ok ⟨G1, G2, TI, TO, z, C⟩ X pins) ∧ Asleep G1 tot s3 ∧ Asleep G2 tot s3 ∧
      (∃ o es ep, s3.heap.get? G1.n0 = some o ∧ o.data = .dict es ep) ∧ ∃ o es ep, s3.heap.get? G2.n0 = some o ∧ o.data = .dict es ep := by
  obtain ⟨a1, c1, eu1, la1, isG1, eg1, _, _, keep1, _, _, sz1, _⟩ := id M1
  obtain ⟨a2, c2, eu2, la2, isG2, eg2, _, _, keep2, _, _, sz2, _⟩ := id M2
  have lg : s1.gens.size < s2.gens.size := by
    rw [g2, eg1, Array.size_push]
    exact Nat.lt_succ_self _
  obtain ⟨G1, o1, e1, st1, n1, gg1, l1, m1, t1, v1, z1, as1, d1⟩ := fresh_asleep (s3 := s3) M1 room fr (by
    rw [g3, eg2, Array.getElem?_push_lt lg, ← g2]
    exact (Array.getElem?_eq_getElem lg).symm) fun b o l q => k3 _ _ (keep2 _ _ (kp b o l q))
  obtain ⟨G2, o2, e2, st2, n2, gg2, l2, m2, t2, v2, z2, as2, d2⟩ := fresh_asleep (s3 := s3) M2 room fr (by rw [g3]) fun b o l q => k3 _ _ q
  have lt12 : G1.a < G2.n0 := by
    rw [n2]
    obtain ⟨o, nm, qn, ho, _⟩ := isG1
    have ea : G1.a = a1 := by
      rw [eu1] at e1
      cases e1
      rfl
    rw [ea]
    exact Heap.lt_size (kp _ _ (.inl eu1) ho)
  refine ⟨G1, G2, e1, e2, n1, n2, z2, l1, m1, t1, v1, l2, m2, t2, v2, lt12, fun TI TO z C q2 q3 q4 q5 => ⟨o1, o2, by rw [n1]; exact above_of I1 (Nat.le_refl _), by rw [n2]; exact above_of I2 (Nat.le_refl _), st1, st2, by rw [gg1, gg2]; exact Nat.ne_of_lt lg, fun b hb => ?_, lt12, by rw [l1, l2]; exact ne, q2, q3, q4, q5⟩, as1, as2, d1, d2⟩
  obtain ⟨_, o, ho, _⟩ := I1.ok.funs.mem hb
  rw [n1]
  exact Nat.lt_of_lt_of_le (Heap.lt_size ho) I1.sz
end
end Sq
set_option Elab.async false
set_option linter.all false
set_option maxRecDepth 100000
set_option maxHeartbeats 2000000
/-! The two calls and zip's, evaluated. -/
namespace Sq
open PySem PySem.Spec PyProof.Rows L2 GenW
section
variable {X : Cx} {k : Nat} {f : Addr} {fd : FuncData} {ps : List Str} {sp : SpX} {x : Str} {pz cz pos : Pos} {p1 p2 c1 c2 : Pos} {ea1 ea2 : Expr} {es1 es2 : List Expr} {t1 t2 : TA} {pins : List (Addr × Obj)} {σ : L2.St} {H : Hp} {s : Shared}
theorem zip_calls (F : GFnX X.prog X.w X.K X.mg X.base k f fd ps sp) (hr : Room k X.A) (hr2 : Room k X.A.in1.in1) (fr : X.A.in1.in1.frames = some X.stack) (hg : Gl X x) (hm : X.mg x = some (.ref f)) (hk : PySem.W.keepIn X.K (.ref f) = true) (hb : Binds X.K fd ps []) (ha1 : GA X (ea1 :: es1) t1) (ha2 : GA X (ea2 :: es2) t2)
    (hgz : Gl X "zip") (hmz : X.mg "zip" = none) (I : Inv X pins σ H s) {R : Nat → (Nat → Int) → (Nat → Int) → Hp → Prop} (h : t1 σ H fun vs1 H1 => ∃ al1 ns1 tot val1, sp vs1 al1 ns1 tot val1 ∧ H1 al1 = some (.lst (ns1.map V.int)) ∧ t2 σ H1 fun vs2 H2 => ∃ al2 ns2 tot2 val2, sp vs2 al2 ns2 tot2 val2 ∧ H2 al2 = some (.lst (ns2.map V.int)) ∧ tot2 = tot ∧ H2 al1 = some (.lst (ns1.map V.int)) ∧
      al1 ≠ al2 ∧ (∀ b u, H1 b = none → H2 b = some u → ∃ xs, u = .lst xs) ∧ R tot val1 val2 H2) (hdb : (x == ("__debug__" : Str)) = false := by decide)
    (he1 : starEach (ea1 :: es1) X.env = (false, eval ea1 X.env) :: starEach es1 X.env := by rfl) (hpl1 : (backTo c1 (starEach es1 X.env)).any (·.1) = false := by rfl) (he2 : starEach (ea2 :: es2) X.env = (false, eval ea2 X.env) :: starEach es2 X.env := by rfl) (hpl2 : (backTo c2 (starEach es2 X.env)).any (·.1) = false := by rfl) :
    wpAny (model X.prog X.w) X.A (eval (.Call (.Name "zip" pz) [.Call (.Name x p1) (ea1 :: es1) [] c1, .Call (.Name x p2) (ea2 :: es2) [] c2] [] cz) X.env) (fun u s3 => ∃ (G1 G2 : Xg) (H2 : Hp) (tot : Nat) (val1 val2 : Nat → Int) (z0 : Addr), u = .ref (z0 + 2) ∧ s3.heap.objs.size = z0 + 3 ∧ IsZip s3.heap (z0 + 2) z0 (z0 + 1) .none ∧ IsPair s3.heap z0 (.ref G1.a) (.ref G2.a) ∧ IsPair s3.heap (z0 + 1) .none .none ∧ Inv X pins σ H2 s3 ∧ (∀ b, z0 ≤ b → H2 b = none) ∧
      G1.tot = tot ∧ G2.tot = tot ∧ G1.val = val1 ∧ G2.val = val2 ∧ (∀ C, z0 + 2 < C → Zx.Ok ⟨G1, G2, z0, z0 + 1, z0 + 2, C⟩ X pins) ∧ H2 G1.al = some (.lst (G1.ns.map V.int)) ∧ H2 G2.al = some (.lst (G2.ns.map V.int)) ∧ (∀ b u, G1.n0 ≤ b → H2 b = some u → ∃ xs, u = .lst xs) ∧ (∀ b ∈ [G1.n0, G1.a, G2.n0, G2.a], H2 b = none) ∧ R tot val1 val2 H2 ∧
      Asleep G1 tot s3 ∧ Asleep G2 tot s3 ∧ (∃ o es ep, s3.heap.get? G1.n0 = some o ∧ o.data = .dict es ep) ∧ ∃ o es ep, s3.heap.get? G2.n0 = some o ∧ o.data = .dict es ep) X.xe s := by
  refine Call_ (ld_blt I hgz hmz boot_zip (PyProof.Rows.callWith_type1 ?_ (by rfl) (by rfl)))
  show wpAny _ _ (spliced ((false, eval (.Call (.Name x p1) (ea1 :: es1) [] c1) X.env) :: backTo cz (starEach [.Call (.Name x p2) (ea2 :: es2) [] c2] X.env))) _ _ s
  refine Calls.spliced_cons (thn (x_call F hr hg hm hk hb ha1 (Q := fun al1 ns1 tot val1 H1 => t2 σ H1 fun vs2 H2 => ∃ al2 ns2 tot2 val2, sp vs2 al2 ns2 tot2 val2 ∧ H2 al2 = some (.lst (ns2.map V.int)) ∧ tot2 = tot ∧ H2 al1 = some (.lst (ns1.map V.int)) ∧ al1 ≠ al2 ∧ (∀ b u, H1 b = none → H2 b = some u → ∃ xs, u = .lst xs) ∧ R tot val1 val2 H2) I h hdb he1 hpl1) fun u1 s1' hh => ?_)
  obtain ⟨s1, H1, al1, ns1, tot, val1, g1, I1, M1, I1', hal1, h2⟩ := hh
  obtain ⟨a1, code1, eu1, la1, isG1, eg1, eo1, lim1, keep1, ⟨on, esn, epn, hn, dn⟩, bare1, sz1, wake1⟩ := id M1
  obtain ⟨og, nm, qn, hog, rg⟩ := id isG1
  have fpP : Inv X (pins ++ [(s1.heap.objs.size, on), (a1, og)]) σ H1 s1' := I1'.pins_of fun p hp => by
    rcases List.mem_append.mp hp with z | z
    · exact I1'.pin p (List.mem_append_right _ z)
    · have e : p = (s1.heap.objs.size, on) ∨ p = (a1, og) := by simpa using z
      rcases e with e | e <;> rw [e]
      · exact ⟨hn, I1.hok.fresh (Nat.le_refl _), Nat.ne_of_gt I1.lt, I1.nofs (Nat.le_refl _), fun v q => by rw [dn] at q; cases q⟩
      · exact ⟨hog, I1.hok.fresh (Nat.le_of_lt la1), Nat.ne_of_gt (Nat.lt_trans I1.lt la1), I1.nofs (Nat.le_of_lt la1), fun v q => by rw [rg.2.1] at q; cases q⟩
  show wpAny _ _ (spliced ((false, eval (.Call (.Name x p2) (ea2 :: es2) [] c2) X.env) :: backTo cz (starEach [] X.env))) _ _ s1'
  refine Calls.spliced_cons (thn (x_call F hr hg hm hk hb ha2 (Q := fun al2 ns2 tot2 val2 H2 => tot2 = tot ∧ H2 al1 = some (.lst (ns1.map V.int)) ∧ al1 ≠ al2 ∧ (∀ b u, H1 b = none → H2 b = some u → ∃ xs, u = .lst xs) ∧ R tot val1 val2 H2) fpP h2 hdb he2 hpl2) fun u2 s2' hh => ?_)
  obtain ⟨s2, H2, al2, ns2, tot2, val2, g2, I2, M2, I2', hal2, rfl, hal1', ne, yng, hR⟩ := hh
  refine Calls.spliced_nil ?_
  have pn := I2.pin (s1.heap.objs.size, on) (List.mem_append_right _ (List.mem_append_right _ (by simp)))
  have pa := I2.pin (a1, og) (List.mem_append_right _ (List.mem_append_right _ (by simp)))
  have kp : ∀ b o, (u1 = .ref b ∨ b = s1.heap.objs.size) → s1'.heap.get? b = some o → s2.heap.get? b = some o := fun b o m q => by
    rcases m with m | m
    · rw [eu1] at m
      cases m
      rw [hog] at q
      cases q
      exact pa.1
    · rw [m, hn] at q
      cases q
      rw [m]
      exact pn.1
  obtain ⟨a2, code2, eu2, la2, isG2, eg2, eo2, lim2, keep2, n02, bare2, sz2, wake2⟩ := id M2
  have isG1' : s2'.heap.IsGen a1 s1.gens.size := ⟨og, nm, qn, keep2 _ _ pa.1, rg⟩
  rw [eu1, eu2]
  refine call_zipG isG1' isG2 fun h' hz hTI hTO hsz k' => ?_
  obtain ⟨G1, G2, q1, q2, n1, n2, z2, l1, m1, t1', v1, l2, m2, t2', v2, lt12, okz, as1, as2, d1, d2⟩ := zx_start (s3 := { s2' with heap := h' }) I1 M1 I2.unpinned g2 kp M2 rfl k' hr2 fr ne
  rw [eu1] at q1
  rw [eu2] at q2
  have e1 : a1 = G1.a := by cases q1; rfl
  have e2 : a2 = G2.a := by cases q2; rfl
  have z0 : G2.a < s2'.heap.objs.size := by
    rw [z2]
    exact Nat.lt_succ_self _
  refine ⟨G1, G2, H2, tot2, val1, val2, s2'.heap.objs.size, rfl, hsz, hz, by rw [← e1, ← e2]; exact hTI, hTO, (I2'.kept (t' := s2'.toks) k').unpinned, fun b l => I2'.hok.fresh l, t1', t2', v1, v2, fun C hC => okz _ _ _ _ z0 (Nat.lt_succ_self _) (Nat.lt_succ_self _) hC, by rw [l1, m1]; exact hal1', by rw [l2, m2]; exact hal2, fun b u l q => yng b u (I1.hok.fresh (by rw [← n1]; exact l)) q, fun b hb => ?_, hR, as1, as2, d1, d2⟩
  simp at hb
  rcases hb with e | e | e | e <;> rw [e]
  · rw [n1]
    exact pn.2.1
  · rw [← e1]
    exact pa.2.1
  · rw [n2]
    exact I2.hok.fresh (Nat.le_refl _)
  · rw [← e2]
    exact I2.hok.fresh (Nat.le_of_lt la2)
end
end Sq
set_option Elab.async false
set_option linter.all false
set_option maxRecDepth 100000
set_option maxHeartbeats 2000000
namespace Sq
open PySem PySem.Spec PyProof.Rows L2 GenW
def tZipLc (sp : SpX) (t1 t2 : TA) (i : Nat) : TS := fun D σ H => t1 σ H fun vs1 H1 => ∃ al1 ns1 tot val1, sp vs1 al1 ns1 tot val1 ∧ H1 al1 = some (.lst (ns1.map V.int)) ∧ t2 σ H1 fun vs2 H2 => ∃ al2 ns2 tot2 val2, sp vs2 al2 ns2 tot2 val2 ∧ H2 al2 = some (.lst (ns2.map V.int)) ∧ tot2 = tot ∧ H2 al1 = some (.lst (ns1.map V.int)) ∧
  al1 ≠ al2 ∧ (∀ b u, H1 b = none → H2 b = some u → ∃ xs, u = .lst xs) ∧ (tot < 1000 ∧ ∀ Dl rows H3, H2 Dl = none → H3 Dl = some (.lst (rows.map V.ref)) → RowsAt H3 rows (prs val1 val2 tot) → (∀ b o, H2 b = some o → H3 b = some o) → D.nx (σ.set i (some (.ref Dl))) H3)
section
variable {X : Cx} {k : Nat} {f : Addr} {fd : FuncData} {ps : List Str} {sp : SpX} {x : Str} {pz cz pos : Pos} {p1 p2 c1 c2 q1 q2 q3 q4 lp_ tpos py spos : Pos} {ea1 ea2 : Expr} {es1 es2 : List Expr} {t1 t2 : TA} {scope : Scope} {own : List (Str × Nat)} {i kk : Nat} {y x1 x2 : Str}
theorem ps_zipLc (F : GFnX X.prog X.w X.K X.mg X.base k f fd ps sp) (hr1 : Room (k + 1) X.A) (hg : Gl X x) (hm : X.mg x = some (.ref f)) (hk : PySem.W.keepIn X.K (.ref f) = true) (hb : Binds X.K fd ps []) (ha1 : GA X (ea1 :: es1) t1) (ha2 : GA X (ea2 :: es2) t2)
    (hgz : Gl X "zip") (hmz : X.mg "zip" = none) (hc : X.calm = true) (hroom : X.A.depth < recursionLimit) (hN : X.N.Nodup) (hy : X.N[i]? = some y) (hyl : X.env.scope.names.lookup y = some .local) (okb : BlkOk X.N X.env.scope scope own) (k1 : scope.names.lookup x1 = some .local) (k2 : scope.names.lookup x2 = some .local) (ne : x1 ≠ x2)
    (hsw : swapsWith (.ListComp (.List [.Name x1 q1, .Name x2 q2] lp_) [⟨.Tuple [.Name x1 q3, .Name x2 q4] kk tpos, .Call (.Name "zip" pz) [.Call (.Name x p1) (ea1 :: es1) [] c1, .Call (.Name x p2) (ea2 :: es2) [] c2] [] cz, [], 0⟩] scope pos) (some (.Name y py)) spos.line X.env = pure true)
    (hs : ∀ v, foldedSetIterable (.Call (.Name "zip" pz) [.Call (.Name x p1) (ea1 :: es1) [] c1, .Call (.Name x p2) (ea2 :: es2) [] c2] [] cz) X.env v = pure v := by intro _; rfl) (d1 : (x1 == ("__debug__" : Str)) = false := by decide) (d2 : (x2 == ("__debug__" : Str)) = false := by decide) (hdb : (x == ("__debug__" : Str)) = false := by decide)
    (he1 : starEach (ea1 :: es1) X.env = (false, eval ea1 X.env) :: starEach es1 X.env := by rfl) (hpl1 : (backTo c1 (starEach es1 X.env)).any (·.1) = false := by rfl) (he2 : starEach (ea2 :: es2) X.env = (false, eval ea2 X.env) :: starEach es2 X.env := by rfl) (hpl2 : (backTo c2 (starEach es2 X.env)).any (·.1) = false := by rfl) :
    PS X (.Assign [.Name y py] (.ListComp (.List [.Name x1 q1, .Name x2 q2] lp_) [⟨.Tuple [.Name x1 q3, .Name x2 q4] kk tpos, .Call (.Name "zip" pz) [.Call (.Name x p1) (ea1 :: es1) [] c1, .Call (.Name x p2) (ea2 :: es2) [] c2] [] cz, [], 0⟩] scope pos) spos) (tZipLc sp t1 t2 i) := by
  refine ⟨fun pins s σ H D I h => ?_⟩
  have fr : X.A.in1.in1.frames = some X.stack := I.ok.frames
  have hr : Room k X.A := hr1.mono (by omega)
  have hr2 : Room k X.A.in1.in1 := ⟨hr1.hd, by have := hr1.dp; show X.A.depth + 3 * k + 5 < _; omega, by have := hr1.un; show X.A.units + 1 + 1 + 16 * k + 200 < _; omega⟩
  unfold tZipLc at h
  rw [exec_Assign_Name_used _ _ _ _ hsw]
  refine wpAny_bind (wpAny_standAt (wpAny_bind ?_))
  show wpAny _ X.A (do let _ ← comprehension (.ListComp (.List [.Name x1 q1, .Name x2 q2] lp_) [⟨.Tuple [.Name x1 q3, .Name x2 q4] kk tpos, .Call (.Name "zip" pz) [.Call (.Name x p1) (ea1 :: es1) [] c1, .Call (.Name x p2) (ea2 :: es2) [] c2] [] cz, [], 0⟩] scope pos) scope X.env (firstIterPos [⟨.Tuple [.Name x1 q3, .Name x2 q4] kk tpos, .Call (.Name "zip" pz) [.Call (.Name x p1) (ea1 :: es1) [] c1, .Call (.Name x p2) (ea2 :: es2) [] c2] [] cz, [], 0⟩] pos) (newList []) false (eval (.Call (.Name "zip" pz) [.Call (.Name x p1) (ea1 :: es1) [] c1, .Call (.Name x p2) (ea2 :: es2) [] c2] [] cz) X.env) (some (assign (.Name y py) X.env))) _ _ s
  have hfree : ∀ y ∈ scope.names, y.2 = .free → ∃ c, X.env.cells.lookup y.1 = some c := fun y hy e => by
    rcases okb.free y hy e with k | k
    · exact I.ok.has _ (.inl k)
    · exact I.ok.has _ (.inr k)
  refine wpAny_bind (thn (Q := fun _ s' => SP X pins D .next s') ?_ fun _ s' hq => wpAny_pure (wpAny_pure hq))
  refine wpAny_comprehension_free (use := some (assign (.Name y py) X.env)) rfl hs (closure_ok hfree) okb.kind (fun y hy e => by rw [okb.uniq y hy, e])
    (thn (zip_calls F hr hr2 fr hg hm hk hb ha1 ha2 hgz hmz I (R := fun tot val1 val2 H2 => tot < 1000 ∧ ∀ Dl rows H3, H2 Dl = none → H3 Dl = some (.lst (rows.map V.ref)) → RowsAt H3 rows (prs val1 val2 tot) → (∀ b o, H2 b = some o → H3 b = some o) → D.nx (σ.set i (some (.ref Dl))) H3) h hdb he1 hpl1 he2 hpl2) fun xv s1 hx => ?_)
  obtain ⟨G1, G2, H2, tot, val1, val2, z0, ex, hsz, hz, hTI, hTO, I2, hfr, e1, e2, v1, v2, okz, l1, l2, yng, free, ⟨few, nxt⟩, as1, as2, dn1, dn2⟩ := hx
  subst ex
  refine wpAny_pyIter_zip hz ?_
  refine wpAny_newObj_type (newEnv_comp ?_) (by show 0 ≤ sizeLine; decide)
  obtain ⟨s3, h3⟩ : ∃ s3 : Shared, s3 = { s1 with heap := s1.heap.push { cls := .type "list", data := .seq ([] : List Value).toArray } } := ⟨_, rfl⟩
  obtain ⟨Dl, hDl⟩ : ∃ Dl, Dl = s1.heap.objs.size := ⟨_, rfl⟩
  have hDn : H2 Dl = none := I2.hok.fresh (Nat.le_of_eq hDl.symm)
  have I3 : Inv X pins σ (upd H2 Dl (.lst [])) s3 := by
    rw [h3, hDl]
    exact I2.laid (t' := s1.toks) (fun b o e => Heap.get?_push_of_some _ e) (Nat.le_refl _) ⟨Nat.zero_le _, [], 0, .nil, Heap.get?_push_size _ rfl⟩
  have k3 : ∀ b o, s1.heap.get? b = some o → s3.heap.get? b = some o := fun b o e => by rw [h3]; exact Heap.get?_push_of_some _ e
  have sz3 : s3.heap.objs.size = Dl + 1 := by rw [h3, hDl]; exact Heap.size_push ..
  have B := block_start (fp := []) I3 okb hN fun b z => absurd z List.not_mem_nil
  obtain ⟨mC, hC, _⟩ := B.loc
  obtain ⟨s4, h4⟩ : ∃ s4 : Shared, s4 = { s3 with heap := pushCells (s3.heap.push { cls := .type "dict", data := .dict #[] }) scope.names } := ⟨_, rfl⟩
  have k4 : ∀ b o, s3.heap.get? b = some o → s4.heap.get? b = some o := fun b o e => by rw [h4]; exact pushCells_keeps _ _ _ _ (Heap.get?_push_of_some _ e)
  have k14 : ∀ b o, s1.heap.get? b = some o → s4.heap.get? b = some o := fun b o e => k4 _ _ (k3 _ _ e)
  have I4 : Inv X pins σ (upd H2 Dl (.lst [])) s4 := by
    rw [h4]
    exact I3.kept (t' := s3.toks) fun b o e => pushCells_keeps _ _ _ _ (Heap.get?_push_of_some _ e)
  have hC4 : s4.heap.Ns s3.heap.objs.size mC := by
    rw [h4]
    exact hC
  have zD : z0 + 2 < Dl := by rw [hDl, hsz]; exact Nat.lt_succ_self _
  have DC : Dl < s3.heap.objs.size := by rw [sz3]; exact Nat.lt_succ_self _
  have ok := okz s3.heap.objs.size (Nat.lt_trans zD DC)
  have g4 : s4.gens = s1.gens := by rw [h4, h3]
  have hlow : ∀ {b : Addr}, b ≠ Dl → (upd H2 Dl (.lst [])) b = H2 b := fun {b} n => upd_ne n
  obtain ⟨w1, w2, w3, w4, w5, w6, w7⟩ := ok.ord
  have w1 : G1.n0 < G1.a := w1
  have w2 : G1.a < G2.n0 := w2
  have w3 : G2.n0 < G2.a := w3
  have w4 : G2.a < z0 := w4
  have z0D : z0 < Dl := Nat.lt_trans (Nat.lt_succ_of_lt (Nat.lt_succ_self _)) zD
  have hf : Zx.Hf ⟨G1, G2, z0, z0 + 1, z0 + 2, s3.heap.objs.size⟩ (upd H2 Dl (.lst [])) := by
    refine ⟨(hlow fun q => by rw [q, hDn] at l1; cases l1).trans l1, (hlow fun q => by rw [q, hDn] at l2; cases l2).trans l2, fun b u l e => ?_, fun b hb => ?_⟩
    · by_cases q : b = Dl
      · rw [q, upd_same] at e
        cases e
        exact ⟨_, rfl⟩
      · rw [hlow q] at e
        exact yng b u l e
    · have both : H2 b = none ∧ b ≠ Dl := by
        simp at hb
        rcases hb with e | e | e | e | e | e | e | e <;> rw [e]
        · exact ⟨free _ (by simp), Nat.ne_of_lt (Nat.lt_trans w1 (Nat.lt_trans w2 (Nat.lt_trans w3 (Nat.lt_trans w4 z0D))))⟩
        · exact ⟨free _ (by simp), Nat.ne_of_lt (Nat.lt_trans w2 (Nat.lt_trans w3 (Nat.lt_trans w4 z0D)))⟩
        · exact ⟨free _ (by simp), Nat.ne_of_lt (Nat.lt_trans w3 (Nat.lt_trans w4 z0D))⟩
        · exact ⟨free _ (by simp), Nat.ne_of_lt (Nat.lt_trans w4 z0D)⟩
        · exact ⟨hfr _ (Nat.le_refl _), Nat.ne_of_lt z0D⟩
        · exact ⟨hfr _ (Nat.le_succ _), Nat.ne_of_lt (Nat.lt_trans (Nat.lt_succ_self _) zD)⟩
        · exact ⟨hfr _ (Nat.le_trans (Nat.le_succ _) (Nat.le_succ _)), Nat.ne_of_lt zD⟩
        · exact ⟨hfr _ (Nat.le_of_lt (Nat.lt_trans z0D DC)), Nat.ne_of_gt DC⟩
      rw [hlow both.2]
      exact both.1
  have lp : Zx.Lp ⟨G1, G2, z0, z0 + 1, z0 + 2, s3.heap.objs.size⟩ X pins σ (upd H2 Dl (.lst [])) Dl tot tot s4 := by
    refine ⟨_, [], hf, ⟨I4, as1.keep (by rw [g4]) fun b o _ q => k14 b o q, as2.keep (by rw [g4]) fun b o _ q => k14 b o q, ?_, ?_, k14 _ _ hTI, ⟨mC, hC4⟩⟩, Nat.le_refl _, k14 _ _ hz, ⟨_, _, k14 _ _ hTO⟩, upd_same, (by rw [Nat.sub_self]; rfl), ?_, fun b o q _ => q⟩
    · obtain ⟨o, es, ep, e, d⟩ := dn1
      exact ⟨o, es, ep, k14 _ _ e, d⟩
    · obtain ⟨o, es, ep, e, d⟩ := dn2
      exact ⟨o, es, ep, k14 _ _ e, d⟩
    · rw [Nat.sub_self]
      trivial
  have nC : G1.n0 < s3.heap.objs.size := Nat.lt_trans w1 (Nat.lt_trans w2 (Nat.lt_trans w3 (Nat.lt_trans w4 (Nat.lt_trans z0D DC))))
  have loop : codeAny (model X.prog X.w) X.A (.compLoop (.ListComp (.List [.Name x1 q1, .Name x2 q2] lp_) [⟨.Tuple [.Name x1 q3, .Name x2 q4] kk tpos, .Call (.Name "zip" pz) [.Call (.Name x p1) (ea1 :: es1) [] c1, .Call (.Name x p2) (ea2 :: es2) [] c2] [] cz, [], 0⟩] scope pos) 0 (.ref (z0 + 2)) (.ref Dl) (compEnvC scope (cellsFrom (s3.heap.objs.size + 1) scope.names (cloFrom X.env.cells scope.names [])) s3.heap.objs.size X.env))
      (compPost (model X.prog X.w) X.A X.xe (some (assign (.Name y py) X.env)) (fun _ s' => SP X pins D .next s') (.ref Dl) s3.heap.objs.size) s4 := by
    refine zip_loop (Z := ⟨G1, G2, z0, z0 + 1, z0 + 2, s3.heap.objs.size⟩) ok (I4.ok.hd hc) hroom e1 e2 few zD DC rfl okb.kind (lookup_relabel_local k1) (lookup_relabel_local k2) ne d1 d2 (fun s' H' rows I' hns hD' rr kp hCn => ?_) lp
    obtain ⟨m, hn⟩ := hns
    obtain ⟨f0, f1, f2, f3, f4, f5⟩ := fp_big ok nC hCn
    show wpAny _ _ (assign (.Name y py) X.env (.ref Dl)) _ _ _
    refine wpAny_assign_Name (store_ok2 (v := V.ref Dl) I' hN hy (.inl hyl) rfl (fun s5 I5 ⟨a, sb, ha⟩ => ?_) (.inr hyl))
    have haC : s3.heap.objs.size ≠ a := by
      rcases ha with q | q
      · rw [q]
        exact f1
      · exact fun q2 => f4 y a q q2.symm
    refine ⟨m, hn.sameBut sb haC, fun h5 sb5 => ?_⟩
    refine ⟨_, H', I5.turned (t' := s5.toks) (fun b o hb q => (sb5.2 b hb).trans q) f0 f1 f3 f4 f5, nxt Dl rows H' hDn hD' (by rw [v1, v2] at rr; exact rr) fun b o q => kp b o ((hlow (ne_of_none q hDn)).trans q) (ne_of_none q hDn)⟩
  have hz4 : IsZip s4.heap (z0 + 2) z0 (z0 + 1) .none := k14 _ _ hz
  have fin := codeAny_compStart_list loop (wpAny_pyIter_zip hz4 loop)
  subst h4 h3 hDl
  exact fin
end
end Sq
set_option Elab.async false
set_option linter.all false
set_option maxRecDepth 100000
set_option maxHeartbeats 1000000
/-! range(lo, hi) of ints of any size; order of lists; list(g(..)). -/
namespace L2
open PySem PySem.Spec PyProof.Rows
end L2
set_option Elab.async false
set_option linter.all false
set_option maxRecDepth 100000
set_option maxHeartbeats 1000000
namespace Sq
open PySem PySem.Spec PyProof.Rows L2
/-! ### generator defs -/
theorem passG {X : Cx} : Passes (CX X.prog X.w) X E0 := fun pins σ H s e s' I h => by
  obtain ⟨a, B, H', cls, d, _, _, _, _, _, _, _, z⟩ := h
  exact z.elim
structure Dg (P : Program) (w : World) (K : PySem.W.Frag) (mg : Str → Option Value) (base : Heap) (k : Nat) (x : Str) (ps : List Str) (sp : SpG) : Prop where
  ex : ∃ f fd, GFn P w K mg base k f fd ps sp ∧ mg x = some (.ref f) ∧ PySem.W.keepIn K (.ref f) = true ∧ Binds K fd ps []
section
variable {X : Cx} {k : Nat} {ps : List Str} {sp : SpG} {x : Str} {p pos lp lpos : Pos} {e : Expr} {es : List Expr} {t : TA}
theorem pe_listGD (D : Dg X.prog X.w X.K X.mg X.base k x ps sp) (hr : Room (k + 3) X.A) (hg : Gl X x) (hl : Gl X "list") (hm : X.mg "list" = none) (ha : PA X (e :: es) t) (hdb : (x == ("__debug__" : Str)) = false := by decide)
    (he : starEach (e :: es) X.env = (false, eval e X.env) :: starEach es X.env := by rfl) (hpl : (backTo pos (starEach es X.env)).any (·.1) = false := by rfl)
    (he2 : starEach [.Call (.Name x p) (e :: es) [] pos] X.env = (false, eval (.Call (.Name x p) (e :: es) [] pos) X.env) :: starEach [] X.env := by rfl) :
    PE X (.Call (.Name "list" lp) [.Call (.Name x p) (e :: es) [] pos] [] lpos) (tListG (tCallG sp [] E0 t)) := by
  obtain ⟨f, fd, F, g, kp, b⟩ := D.ex
  exact pe_listG (pgen_call F (hr.mono (by omega)) hg g kp b .nil ha hdb he hpl) passG (fun _ _ _ h => h.elim) hr hl hm (by decide +kernel) (by decide) (by decide) he2
end
/-! ### x <= y of lists -/
end Sq
set_option Elab.async false
set_option linter.all false
set_option maxRecDepth 100000
set_option maxHeartbeats 2000000
/-! list(g(k=e, ..)) of a generator def, by keywords. -/
namespace Sq
open PySem PySem.Spec PyProof.Rows L2
structure Dgk (P : Program) (w : World) (K : PySem.W.Frag) (mg : Str → Option Value) (base : Heap) (k : Nat) (x : Str) (ps ks : List Str) (g : List Value → List Value → List Value) (gV : List V → List V → List V) (sp : SpG) : Prop where
  ex : ∃ f fd, GFn P w K mg base k f fd ps sp ∧ mg x = some (.ref f) ∧ PySem.W.keepIn K (.ref f) = true ∧ KBn K fd ps 0 ks g gV
def tCallGK (n : Nat) (gV : List V → List V → List V) (sp : SpG) (E : XK) (tk : TA) : TGen := fun σ H cont => tk σ H fun zs H1 => zs.length = n ∧ sp (gV [] zs) H1 cont E
section
variable {X : Cx} {k : Nat} {ps ks : List Str} {g : List Value → List Value → List Value} {gV : List V → List V → List V} {sp : SpG} {x : Str} {p pos lp lpos : Pos} {kws : List Keyword} {tk : TA} {f : Addr} {fd : FuncData}
theorem run_gfnK {pins : List (Addr × Obj)} {σ : L2.St} {H : Hp} {s : Shared} {ws : List Value} {zs : List V} {cont : List V → Hp → Prop} {E : XK} {E1 : Value → Shared → Prop} (F : GFn X.prog X.w X.K X.mg X.base k f fd ps sp) (hr : Room k X.A) (hb : KBn X.K fd ps 0 ks g gV)
    (I : Inv X pins σ H s) (rz : Vals zs ws) (l2 : zs.length = ks.length) (h : sp (gV [] zs) H cont E) :
    wpAny (model X.prog X.w) X.A (call (.ref f) [] (ks.zip ws)) (fun u s' => ∃ H1 sc ex, Inv X pins σ H1 sc ∧ ExOk X pins ex ∧ GMade X.prog X.w k X.stack H1 sc ex cont E u s') E1 s := by
  have r2 : Vals (gV [] zs) (g [] ws) := hb.rel .nil rz
  refine wpAny_call (codeAny_mono (F.run X.A X.stack s H ⟨[], ks.zip ws⟩ (g [] ws) (gV [] zs) cont E hr I.env0 (hb.to s [] ws I.kIn rfl (rz.length.symm.trans l2)) r2 h) fun r s' hq => ?_)
  cases r with
  | error e => exact False.elim hq
  | ok fl =>
    cases fl with
    | ret u => exact ⟨H, s, [], I, .nil, hq⟩
    | next => exact False.elim hq
    | brk => exact False.elim hq
    | cont => exact False.elim hq
theorem pgen_callK {E : XK} (F : GFn X.prog X.w X.K X.mg X.base k f fd ps sp) (hr : Room k X.A) (hg : Gl X x) (hm : X.mg x = some (.ref f)) (kp : PySem.W.keepIn X.K (.ref f) = true) (hb : KBn X.K fd ps 0 ks g gV)
    (hkw : PK X kws tk) (hall : (backToKw pos (keywordEach kws X.env)).all (·.1.isSome) = true := by rfl)
    (hks : (backToKw pos (keywordEach kws X.env)).filterMap (·.1) = ks := by rfl) (hdb : (x == ("__debug__" : Str)) = false := by decide)
    (hpl : ((backTo pos (starEach [] X.env)).any (·.1) || (backToKw pos (keywordEach kws X.env)).any (·.1.isNone)) = false := by rfl) :
    PGen X k (.Call (.Name x p) [] kws pos) (tCallGK ks.length gV sp E tk) E := by
  refine ⟨fun pins s σ H cont I h => ?_⟩
  refine wpAny_Call_Name_kw (ld_glob I hg hm ?_ hdb)
  refine PySem.W.callWith_KW0 (h₀ := X.base) I.ok.mod.kin kp hall (thn (hkw.run pos pins s σ H _ I h) fun ws s1 ⟨zs, H1, I1, rz, l2, q⟩ => ⟨I1.kIn, ?_⟩) hpl
  rw [hks]
  exact run_gfnK F hr hb I1 rz l2 q
theorem pe_listGK (D : Dgk X.prog X.w X.K X.mg X.base k x ps ks g gV sp) (hr : Room (k + 3) X.A) (hg : Gl X x) (hl : Gl X "list") (hm : X.mg "list" = none) (hkw : PK X kws tk) (hall : (backToKw pos (keywordEach kws X.env)).all (·.1.isSome) = true := by rfl)
    (hks : (backToKw pos (keywordEach kws X.env)).filterMap (·.1) = ks := by rfl) (hdb : (x == ("__debug__" : Str)) = false := by decide)
    (hpl : ((backTo pos (starEach [] X.env)).any (·.1) || (backToKw pos (keywordEach kws X.env)).any (·.1.isNone)) = false := by rfl)
    (he2 : starEach [.Call (.Name x p) [] kws pos] X.env = (false, eval (.Call (.Name x p) [] kws pos) X.env) :: starEach [] X.env := by rfl) :
    PE X (.Call (.Name "list" lp) [.Call (.Name x p) [] kws pos] [] lpos) (tListG (tCallGK ks.length gV sp E0 tk)) := by
  obtain ⟨f, fd, F, g, kp, b⟩ := D.ex
  exact pe_listG (pgen_callK F (hr.mono (by omega)) hg g kp b hkw hall hks hdb hpl) passG (fun _ _ _ h => h.elim) hr hl hm (by decide +kernel) (by decide) (by decide) he2
end
end Sq
set_option Elab.async false
set_option linter.all false
set_option maxRecDepth 100000
set_option maxHeartbeats 4000000
set_option exponentiation.threshold 2000
namespace Sq
open PySem PySem.Spec PyProof.Rows L2
def topS (i : Nat) : Stmt := PySem.Challenge.pw_squeezelists_k02_lengths_of_runs.main.body.getD i (.Pass ⟨0, 0, 0, 0⟩)
abbrev s_checklist : Stmt := topS 6
theorem sc_checklist : FnScope ["replacements", "index", "number"] ["replacements"] (defScope s_checklist) := ⟨rfl, rfl, rfl, by decide +kernel, rfl, by decide +kernel, by decide +kernel⟩
abbrev s_checknumber : Stmt := topS 7
theorem sc_checknumber : FnScope ["number", "least"] ["number", "least"] (defScope s_checknumber) := ⟨rfl, rfl, rfl, by decide +kernel, rfl, by decide +kernel, by decide +kernel⟩
abbrev s_squeezed : Stmt := topS 9
theorem sc_squeezed : FnScope ["length", "replacements"] ["length", "replacements"] (defScope s_squeezed) := ⟨rfl, rfl, rfl, by decide +kernel, rfl, by decide +kernel, by decide +kernel⟩
abbrev s_stages : Stmt := topS 10
theorem sc_stages : GScope ["length", "replacements", "present", "number"] ["length", "replacements"] (defScope s_stages) := ⟨rfl, rfl, rfl, by decide +kernel, rfl, by decide +kernel, by decide +kernel⟩
abbrev s_lengthafter : Stmt := topS 11
theorem sc_lengthafter : FnScope ["length", "replacements", "present", "number"] ["length", "replacements"] (defScope s_lengthafter) := ⟨rfl, rfl, rfl, by decide +kernel, rfl, by decide +kernel, by decide +kernel⟩
abbrev s_lengthafterone : Stmt := topS 12
theorem sc_lengthafterone : FnScope ["length", "number", "groups", "left"] ["length", "number"] (defScope s_lengthafterone) := ⟨rfl, rfl, rfl, by decide +kernel, rfl, by decide +kernel, by decide +kernel⟩
abbrev s_readlist : Stmt := topS 15
theorem sc_readlist : FnScope ["text", "found", "part", "digits", "mark", "many", "number"] ["text"] (defScope s_readlist) := ⟨rfl, rfl, rfl, by decide +kernel, rfl, by decide +kernel, by decide +kernel⟩
abbrev s_isnumber : Stmt := topS 16
theorem sc_isnumber : FnScope ["digits"] ["digits"] (defScope s_isnumber) := ⟨rfl, rfl, rfl, by decide +kernel, rfl, by decide +kernel, by decide +kernel⟩
abbrev s_lawrng : Stmt := topS 18
theorem sc_lawrng : FnScope ["script", "digits", "seed", "cell", "far"] ["script"] (defScope s_lawrng) := ⟨rfl, rfl, rfl, by decide +kernel, rfl, by decide +kernel, by decide +kernel⟩
abbrev s_lawdraw : Stmt := topS 19
theorem sc_lawdraw : FnScope ["rng", "limit", "found", "mixed"] ["rng", "limit"] (defScope s_lawdraw) := ⟨rfl, rfl, rfl, by decide +kernel, rfl, by decide +kernel, by decide +kernel⟩
abbrev s_lawlist : Stmt := topS 20
theorem sc_lawlist : FnScope ["rng", "most", "greatest", "found", "kind", "turn", "some"] ["rng", "most", "greatest"] (defScope s_lawlist) := ⟨rfl, rfl, rfl, by decide +kernel, rfl, by decide +kernel, by decide +kernel⟩
abbrev s_lawonce : Stmt := topS 21
theorem sc_lawonce : FnScope ["many", "number", "groups"] ["many", "number"] (defScope s_lawonce) := ⟨rfl, rfl, rfl, by decide +kernel, rfl, by decide +kernel, by decide +kernel⟩
abbrev s_lawafter : Stmt := topS 22
theorem sc_lawafter : FnScope ["many", "some", "number"] ["many", "some"] (defScope s_lawafter) := ⟨rfl, rfl, rfl, by decide +kernel, rfl, by decide +kernel, by decide +kernel⟩
abbrev s_lawmany : Stmt := topS 23
theorem sc_lawmany : FnScope ["rng", "some", "product", "number", "near", "found"] ["rng", "some"] (defScope s_lawmany) := ⟨rfl, rfl, rfl, by decide +kernel, rfl, by decide +kernel, by decide +kernel⟩
abbrev s_lawright : Stmt := topS 24
theorem sc_lawright : FnScope ["many", "some", "kept", "due", "number", "cut"] ["many", "some"] (defScope s_lawright) := ⟨rfl, rfl, rfl, by decide +kernel, rfl, by decide +kernel, by decide +kernel⟩
abbrev s_law : Stmt := topS 25
theorem sc_law : FnScope ["script", "rng", "lap", "some", "turn", "long", "many", "both", "walk", "later", "one", "number", "other"] ["script"] (defScope s_law) := ⟨rfl, rfl, rfl, by decide +kernel, rfl, by decide +kernel, by decide +kernel⟩
/-! ### the draws -/
structure Rng (H : Hp) (l : Addr) (seed cnt : Int) : Prop where
  ob : ∃ dg, H l = some (.lst [.int dg, .int seed, .int cnt])
  s0 : 0 ≤ seed
  s1 : seed < 2305843009213693951
  c0 : 0 ≤ cnt
theorem Rng.same {H H' : Hp} {l : Addr} {seed cnt : Int} (S : Rng H l seed cnt) (s : Same H H') : Rng H' l seed cnt :=
  let ⟨dg, h⟩ := S.ob
  ⟨⟨dg, s _ _ h⟩, S.s0, S.s1, S.c0⟩
/-- all but the object at l is as it was -/
def Keep1 (H H' : Hp) (l : Addr) : Prop := ∀ b o, H b = some o → b ≠ l → H' b = some o
theorem Keep1.trans {H H1 H2 : Hp} {l : Addr} (a : Keep1 H H1 l) (b : Keep1 H1 H2 l) : Keep1 H H2 l := fun c o h n => b c o (a c o h n) n
theorem Keep1.of {H H' : Hp} {l : Addr} (s : Same H H') : Keep1 H H' l := fun b o h _ => s b o h
theorem Keep1.set {H : Hp} {l : Addr} {o : HO} : Keep1 H (upd H l o) l := fun c x h n => by
  rw [upd_ne n]
  exact h
theorem growD {D r T : Int} {a : Nat} (h0 : 0 ≤ D) (h1 : D.natAbs < 2 ^ a) (r0 : 0 ≤ r) (r1 : r < T) (hT : T.natAbs ≤ 2 ^ 200) : 0 ≤ D * T + r ∧ (D * T + r).natAbs < 2 ^ (a + 200) := by
  have t0 : 0 ≤ T := by omega
  have p := Int.mul_nonneg h0 t0
  obtain ⟨d, rfl⟩ := Int.eq_ofNat_of_zero_le h0
  obtain ⟨t, rfl⟩ := Int.eq_ofNat_of_zero_le t0
  refine ⟨by omega, ?_⟩
  have h1' : d < 2 ^ a := by simpa using h1
  have hT' : t ≤ 2 ^ 200 := by simpa using hT
  have m : (d + 1) * t ≤ 2 ^ a * 2 ^ 200 := Nat.mul_le_mul h1' hT'
  rw [Nat.pow_add]
  have e : ((d : Int) * (t : Int)) = ((d * t : Nat) : Int) := by simp
  have e2 : (d + 1) * t = d * t + t := by rw [Nat.add_mul, Nat.one_mul]
  rw [e]
  omega
theorem p10_60 : ((10 : Int) ^ (60 : Int).toNat).natAbs ≤ 2 ^ 200 := by decide
theorem cut63 {xs : List V} (h : xs.length ≤ 63) : cutV xs none (some 63) = xs := by
  unfold cutV
  rw [HT.sIx_none, show HT.sIx xs.length xs.length (some 63) = min 63 xs.length from HT.sIx_nat xs.length xs.length 63, Nat.min_eq_right h]
  show List.take (xs.length - 0) (List.drop 0 xs) = xs
  rw [List.drop_zero, Nat.sub_zero, List.take_length]
section
variable {P : Program} {w : World} {K : PySem.W.Frag} {mg : Str → Option Value} {base : Heap}
def spRng (K : PySem.W.Frag) : Sp := fun vs H Q _ => ∃ (a : Addr) (ns : List Int), vs = [.ref a] ∧ SqL K H a (ns.map V.int) ∧ ns.length ≤ 63 ∧ ∀ l seed H', H l = none → Same H H' → Rng H' l seed 0 → Q (.ref l) H'
theorem ok_lawrng {f : Addr} {fd : FuncData} (F : Fun K "_law_rng" "_law_rng" s_lawrng f fd) (B : Bi mg) : FnOk P w K mg base CX0 1 f fd ["script"] (spRng K) := by
  refine F.ok sc_lawrng (fun vs H Q E h => ?_) (fun cdv A outer s H vs Q E hr h => ?_)
  · obtain ⟨a, ns, rfl, _⟩ := h
    rfl
  · obtain ⟨a, ns, rfl, hS, hn, q⟩ := h
    refine ⟨_, (pss_cons (ps_asg (pe_tup (pa_cons pe_int (pa_cons pe_int pa_nil))) (pg_tup rfl (pgs_cons (pg_name (i := 1) sc_lawrng.nd rfl (Or.inl rfl)) (pgs_cons (pg_name (i := 2) sc_lawrng.nd rfl (Or.inl rfl)) pgs_nil))))
 (pss_cons (ps_for PassesOwn.never rfl (pi_list (pe_slice sl_list (pv 0) po_none (po_some pe_int))) (pg_name (i := 3) sc_lawrng.nd rfl (Or.inl rfl))
 (pss_cons (ps_set (i := 4) sc_lawrng.nd rfl (Or.inl rfl) (pe_callB (id := "abs") call_abs (by rfl) B.n_abs (by decide +kernel) (pa_cons (pv 3) pa_nil)))
 (pss_cons (ps_if (pt_cmpR op_ge (pv 4) (pe_op op_pow pe_int pe_int) (nomark _))
 (pss_one (ps_set (i := 1) sc_lawrng.nd rfl (Or.inl rfl) (pe_op op_add (pe_op op_mulW (pv 1) (pe_op op_pow pe_int pe_int)) (pe_op op_mod (pv 4) (pe_op op_pow pe_int pe_int)))))
 pss_nil)
 (pss_one (ps_set (i := 2) sc_lawrng.nd rfl (Or.inl rfl) (pe_op op_mod (pe_op op_add (pe_op op_add (pe_op op_mul (pv 2) pe_int) (pe_op op_mod (pv 3) pe_int)) pe_int) pe_int))))))
 (pss_one (ps_ret (pe_lst (pa_cons (pv 1) (pa_cons (pv 2) (pa_cons pe_int pa_nil)))))))), ?_⟩
    refine ⟨(by show 2 ≤ sizeLine; exact Nat.le_of_lt (small1000 (by decide))), fun t0 ht0 => ⟨t0, [.int 0, .int 88675123], rfl, .inl (.inl upd_same), rfl, _, _, rfl, _, _, rfl, rfl, ?_⟩⟩
    have sm0 := same_new (o := .tup [.int 0, .int 88675123]) ht0
    refine ⟨_, rfl, 63, rfl, a, _, rfl, sm0.seq hS, fun p hp => ?_⟩
    rw [cut63 (by rw [List.length_map]; exact hn)]
    refine ⟨p, rfl, ⟨_, SqL.of upd_same⟩, for_list (K := K) (a := p) (xs := ns.map V.int) (fun i σ H' => Same (upd (upd H t0 (.tup [.int 0, .int 88675123])) p (.lst (ns.map V.int))) H' ∧ i ≤ 63 ∧ ∃ dg seed y3 y4, σ = [some (.ref a), some (.int dg), some (.int seed), y3, y4] ∧ 0 ≤ dg ∧ dg.natAbs < 2 ^ (200 * i + 1) ∧ 0 ≤ seed ∧ seed < 2305843009213693951)
      ⟨Same.refl _, by decide, 0, 88675123, none, none, rfl, by decide, by decide, by decide, by decide⟩ (fun i σ H' _ h => SqL.of (h.1 _ _ upd_same)) ?_ ?_⟩
    · rintro i x σ H' hi ⟨sm, h63, dg, seed, y3, y4, rfl, d0, d1, s0, s1⟩
      have hil : i < ns.length := by
        have := (List.getElem?_eq_some_iff.mp hi).1
        rwa [List.length_map] at this
      obtain ⟨c, hc, rfl⟩ := map_at hi
      refine ⟨_, rfl, c, rfl, ?_⟩
      generalize (if c < 0 then -c else c) = far
      have t0 : 0 ≤ (seed * 1000003 + c % 2305843009213693921 + 7) % 2305843009213693951 := Int.emod_nonneg _ (by decide)
      have t1 : (seed * 1000003 + c % 2305843009213693921 + 7) % 2305843009213693951 < 2305843009213693951 := Int.emod_lt_of_pos _ (by decide)
      have r0 : 0 ≤ far % 10 ^ (60 : Int).toNat := Int.emod_nonneg _ (by decide)
      have r1 : far % 10 ^ (60 : Int).toNat < 10 ^ (60 : Int).toNat := Int.emod_lt_of_pos _ (by decide)
      obtain ⟨g0, g1⟩ := growD d0 d1 r0 r1 p10_60
      refine ⟨_, rfl, 10, 18, rfl, rfl, ⟨by decide, by decide, by decide⟩, _, _, rfl, rfl, _, rfl, ite2 (fun _ => ?_) (fun _ => ?_)⟩
      · refine ⟨_, rfl, 10, 60, rfl, rfl, ⟨by decide, by decide, by decide⟩, dg, _, rfl, rfl, wide_mul d1 (show ((10 : Int) ^ (60 : Int).toNat).natAbs < 2 ^ 200 by decide) (by omega) (by decide) (by omega), _, rfl, 10, 60, rfl, rfl, ⟨by decide, by decide, by decide⟩, far, _, rfl, rfl, (by decide : (0 : Int) < 10 ^ (60 : Int).toNat), _, _, rfl, rfl, ?_⟩
        refine ⟨_, rfl, seed, 1000003, rfl, rfl, .inr ⟨by decide, by decide⟩, _, rfl, c, _, rfl, rfl, (by decide : (0 : Int) < 2305843009213693921), _, _, rfl, rfl, _, 7, rfl, rfl, _, _, rfl, rfl, (by decide : (0 : Int) < 2305843009213693951), ?_⟩
        exact ⟨sm, by omega, _, _, _, _, rfl, g0, g1, t0, t1⟩
      · refine ⟨_, rfl, seed, 1000003, rfl, rfl, .inr ⟨by decide, by decide⟩, _, rfl, c, _, rfl, rfl, (by decide : (0 : Int) < 2305843009213693921), _, _, rfl, rfl, _, 7, rfl, rfl, _, _, rfl, rfl, (by decide : (0 : Int) < 2305843009213693951), ?_⟩
        exact ⟨sm, by omega, _, _, _, _, rfl, d0, Nat.lt_of_lt_of_le d1 (Nat.pow_le_pow_right (by decide) (by omega)), t0, t1⟩
    · rintro σ H' ⟨sm, h63, dg, seed, y3, y4, rfl, d0, d1, s0, s1⟩
      refine ⟨_, rfl, _, rfl, (by show 3 ≤ sizeLine; exact Nat.le_of_lt (small1000 (by decide))), fun l hl => ?_⟩
      have s2 := (sm0.trans (same_new (o := .lst (ns.map V.int)) hp)).trans sm
      exact q l seed _ (s2.free hl) (s2.trans (same_new hl)) ⟨⟨dg, upd_same⟩, s0, s1, Int.le_refl 0⟩
end
section
variable {P : Program} {w : World} {K : PySem.W.Frag} {mg : Str → Option Value} {base : Heap}
def spDraw : Sp := fun vs H Q _ => ∃ (l : Addr) (seed cnt limit : Int), vs = [.ref l, .int limit] ∧ Rng H l seed cnt ∧ cnt < 1000000 ∧ 0 < limit ∧ limit.natAbs < 2 ^ 700 ∧
  ∀ z cnt' H', 0 ≤ z → z < limit → Rng H' l seed cnt' → cnt' ≤ cnt + 1 → Keep1 H H' l → Q (.int z) H'
theorem ok_lawdraw {f : Addr} {fd : FuncData} (F : Fun K "_law_draw" "_law_draw" s_lawdraw f fd) : FnOk P w K mg base CX0 1 f fd ["rng", "limit"] spDraw := by
  refine F.ok sc_lawdraw (fun vs H Q E h => ?_) (fun cdv A outer s H vs Q E hr h => ?_)
  · obtain ⟨l, seed, cnt, limit, rfl, _⟩ := h
    rfl
  · obtain ⟨l, seed, cnt, limit, rfl, S, hc, hm, hw, q⟩ := h
    refine ⟨_, (pss_cons (ps_if (pt_cmpR op_gt (pe_ix (r := rIxL K) ix_list (pv 0) pe_int (fun _ _ => rfl)) pe_int (nomark _))
 (pss_cons (ps_set (i := 2) sc_lawdraw.nd rfl (Or.inl rfl) (pe_op op_mod (pe_ix (r := rIxL K) ix_list (pv 0) pe_int (fun _ _ => rfl)) (pv 1)))
 (pss_cons (ps_asg (pe_op op_fdivW (pe_ix (r := rIxL K) ix_list (pv 0) pe_int (fun _ _ => rfl)) (pv 1)) (pg_sub (pv 0) pe_int set_list))
 (pss_one (ps_ret (pv 2)))))
 pss_nil)
 (pss_cons (ps_asg (pe_op op_add (pe_ix (r := rIxL K) ix_list (pv 0) pe_int (fun _ _ => rfl)) pe_int) (pg_sub (pv 0) pe_int set_list))
 (pss_cons (ps_set (i := 3) sc_lawdraw.nd rfl (Or.inl rfl) (pe_op op_mod (pe_op op_powW (pe_op op_add (pe_ix (r := rIxL K) ix_list (pv 0) pe_int (fun _ _ => rfl)) (pe_op op_mul pe_int (pe_ix (r := rIxL K) ix_list (pv 0) pe_int (fun _ _ => rfl)))) pe_int) pe_int))
 (pss_cons (ps_set (i := 3) sc_lawdraw.nd rfl (Or.inl rfl) (pe_op op_mod (pe_op op_powW (pe_op op_add (pv 3) (pe_op op_mul pe_int (pe_ix (r := rIxL K) ix_list (pv 0) pe_int (fun _ _ => rfl)))) pe_int) pe_int))
 (pss_one (ps_ret (pe_op op_mod (pe_op op_fdiv (pv 3) pe_int) (pv 1)))))))), ?_⟩
    have s0 := S.s0
    have s1 := S.s1
    have c0 := S.c0
    obtain ⟨dg, hl⟩ := S.ob
    refine ⟨_, rfl, l, _, 0, _, rfl, rfl, SqL.of hl, rfl, dg, 0, rfl, rfl, _, rfl, ite2 (fun c1 => ?_) (fun c1 => ?_)⟩
    · refine ⟨_, rfl, l, _, 0, _, rfl, rfl, SqL.of hl, rfl, _, rfl, dg, limit, rfl, rfl, hm, ?_⟩
      refine ⟨_, rfl, l, _, 0, _, rfl, rfl, SqL.of hl, rfl, _, rfl, dg, limit, rfl, rfl, wide_div hm hw (by decide) (by decide), ?_⟩
      refine ⟨_, rfl, l, _, 0, 0, rfl, rfl, hl, rfl, _, rfl, ?_⟩
      exact q _ cnt _ (Int.emod_nonneg _ (by omega)) (Int.emod_lt_of_pos _ hm) ⟨⟨dg / limit, upd_same⟩, s0, s1, c0⟩ (by omega) Keep1.set
    · refine ⟨_, rfl, l, _, 2, _, rfl, rfl, SqL.of hl, rfl, cnt, 1, rfl, rfl, _, rfl, l, _, 2, 2, rfl, rfl, hl, rfl, ?_⟩
      have hl3 : (upd H l (.lst [.int dg, .int seed, .int (cnt + 1)])) l = some (.lst [.int dg, .int seed, .int (cnt + 1)]) := upd_same
      have b1 : (seed + 998244353 * (cnt + 1)).natAbs < 2 ^ 63 := by omega
      refine ⟨_, rfl, l, _, 1, _, rfl, rfl, SqL.of hl3, rfl, _, rfl, l, _, 2, _, rfl, rfl, SqL.of hl3, rfl, 998244353, cnt + 1, rfl, rfl, .inl ⟨by decide, by decide⟩, seed, _, rfl, rfl, _, 3, rfl, rfl, powW_of (by decide) b1 (by decide) (by decide), _, _, rfl, rfl, (by decide : (0 : Int) < 162259276829213363391578010288127), ?_⟩
      have p0 : 0 ≤ (seed + 998244353 * (cnt + 1)) ^ (3 : Int).toNat % 162259276829213363391578010288127 := Int.emod_nonneg _ (by decide)
      have p1 : (seed + 998244353 * (cnt + 1)) ^ (3 : Int).toNat % 162259276829213363391578010288127 < 162259276829213363391578010288127 := Int.emod_lt_of_pos _ (by decide)
      have b2 : ((seed + 998244353 * (cnt + 1)) ^ (3 : Int).toNat % 162259276829213363391578010288127 + 32452843 * (cnt + 1)).natAbs < 2 ^ 110 := by
        generalize (seed + 998244353 * (cnt + 1)) ^ (3 : Int).toNat % 162259276829213363391578010288127 = y at p0 p1
        omega
      refine ⟨_, rfl, _, rfl, l, _, 2, _, rfl, rfl, SqL.of hl3, rfl, 32452843, cnt + 1, rfl, rfl, .inl ⟨by decide, by decide⟩, _, _, rfl, rfl, _, 3, rfl, rfl, powW_of (by decide) b2 (by decide) (by decide), _, _, rfl, rfl, (by decide : (0 : Int) < 170141183460469231731687303715884105727), ?_⟩
      refine ⟨_, rfl, _, 1048576, rfl, rfl, ⟨by decide, by decide⟩, _, rfl, _, limit, rfl, rfl, hm, ?_⟩
      exact q _ (cnt + 1) _ (Int.emod_nonneg _ (by omega)) (Int.emod_lt_of_pos _ hm) ⟨⟨dg, hl3⟩, s0, s1, by omega⟩ (by omega) Keep1.set
end
theorem Rng.free {H H' : Hp} {l p : Addr} {seed cnt : Int} (k : Keep1 H H' l) (S : Rng H' l seed cnt) (h : H' p = none) : H p = none := by
  obtain ⟨dg, hl⟩ := S.ob
  cases e : H p with
  | none => rfl
  | some o =>
    have := k p o e (fun z => by rw [z, hl] at h; cases h)
    rw [h] at this
    cases this
theorem Rng.ne {H : Hp} {l p : Addr} {seed cnt : Int} (S : Rng H l seed cnt) (h : H p = none) : p ≠ l := fun z => by
  obtain ⟨dg, hl⟩ := S.ob
  rw [z, hl] at h
  cases h
theorem Rng.upd {H : Hp} {l p : Addr} {seed cnt : Int} {o : HO} (S : Rng H l seed cnt) (h : p ≠ l) : Rng (upd H p o) l seed cnt :=
  let ⟨dg, hl⟩ := S.ob
  ⟨⟨dg, by rw [upd_ne h.symm]; exact hl⟩, S.s0, S.s1, S.c0⟩
theorem nth_of {xs : List Int} {z : Int} (h0 : 0 ≤ z) (h : z < xs.length) : ∃ k, k ∈ xs ∧ atI (xs.map V.int) z = some (.int k) := by
  have lt : z.toNat < xs.length := by omega
  refine ⟨xs[z.toNat], List.getElem_mem lt, at_of (j := z.toNat) (by omega) ?_⟩
  rw [List.getElem?_map, List.getElem?_eq_getElem lt]
  rfl
theorem lim10 {i : Int} (h : i.natAbs ≤ 10 ^ 31) : i.natAbs < 2 ^ 700 := Nat.lt_of_le_of_lt h (by decide)
section
variable {P : Program} {w : World} {K : PySem.W.Frag} {mg : Str → Option Value} {base : Heap} {c fI : Nat → Addr} {qn : Nat → Str} {cB : Addr}
def spList : Sp := fun vs H Q _ => ∃ (l : Addr) (seed cnt M g : Int), vs = [.ref l, .int M, .int g] ∧ 0 ≤ M ∧ M ≤ 12 ∧ 3 ≤ g ∧ g ≤ 1000000 ∧ Rng H l seed cnt ∧ cnt < 500000 ∧
  ∀ p ks cnt' H', H p = none → Rng H' l seed cnt' → cnt' ≤ cnt + 80 → Keep1 H H' l → H' p = some (.lst (List.map V.int ks)) → ks.length ≤ 12 → (∀ k ∈ ks, 2 ≤ k ∧ k ≤ 1000000) → Q (.ref p) H'
theorem ok_lawlist {f : Addr} {fd : FuncData} (F : Fun K "_law_list" "_law_list" s_lawlist f fd) (B : Bi mg) (D_lawdraw : Df P w K mg base 1 "_law_draw" ["rng", "limit"] spDraw) : FnOk P w K mg base CX0 2 f fd ["rng", "most", "greatest"] spList := by
  refine F.ok sc_lawlist (fun vs H Q E h => ?_) (fun cdv A outer s H vs Q E hr h => ?_)
  · obtain ⟨l, seed, cnt, M, g, rfl, _⟩ := h
    rfl
  · obtain ⟨l, seed, cnt, M, g, rfl, M0, M1, g0, g1, S, hc, q⟩ := h
    refine ⟨_, (pss_cons (ps_par (i := 3) (j := 4) (by rfl) sc_lawlist.nd rfl rfl (by decide) rfl rfl (pa_cons (pe_lst pa_nil) (pa_cons (pe_callD D_lawdraw (hr.mono (by omega)) (by rfl) (pa_cons (pv 0) (pa_cons pe_int pa_nil))) pa_nil)) (by rfl))
 (pss_cons (ps_for PassesOwn.never rfl (pi_range1 (by rfl) B.n_range (pa_cons (pe_callD D_lawdraw (hr.mono (by omega)) (by rfl) (pa_cons (pv 0) (pa_cons (pe_op op_add (pv 1) pe_int) pa_nil))) pa_nil)) (pg_name (i := 5) sc_lawlist.nd rfl (Or.inl rfl))
 (pss_cons (ps_set (i := 6) sc_lawlist.nd rfl (Or.inl rfl) (pe_lst (pa_cons (pe_op op_add pe_int (pe_callD D_lawdraw (hr.mono (by omega)) (by rfl) (pa_cons (pv 0) (pa_cons pe_int pa_nil)))) (pa_cons (pe_ix (r := rIxL K) ix_list (pe_op op_cat (pv 3) (pe_lst (pa_cons pe_int pa_nil))) pe_int (fun _ _ => rfl)) (pa_cons (pe_callB (id := "max") (call_max2 rfl) (by rfl) B.n_max (by decide +kernel) (pa_cons pe_int (pa_cons (pe_op op_sub (pv 2) (pe_callD D_lawdraw (hr.mono (by omega)) (by rfl) (pa_cons (pv 0) (pa_cons pe_int pa_nil)))) pa_nil))) pa_nil)))))
 (pss_cons (ps_expr (pe_bm PySem.F.plainAttrs_list PySem.F.slot_list_append PySem.F.type_list_append mt_append (pv 6) (pa_cons (pe_op op_add pe_int (pe_callD D_lawdraw (hr.mono (by omega)) (by rfl) (pa_cons (pv 0) (pa_cons (pe_op op_sub (pv 2) pe_int) pa_nil)))) pa_nil)))
 (pss_one (ps_expr (pe_bm PySem.F.plainAttrs_list PySem.F.slot_list_insert PySem.F.type_list_insert mt_insert (pv 3) (pa_cons pe_int (pa_cons (pe_ix (r := rIxL K) ix_list (pv 6) (pe_ix (r := rIxL K) ix_list (pe_lst (pa_cons (pv 4) (pa_cons (pe_callD D_lawdraw (hr.mono (by omega)) (by rfl) (pa_cons (pv 0) (pa_cons pe_int pa_nil))) pa_nil))) (pe_callD D_lawdraw (hr.mono (by omega)) (by rfl) (pa_cons (pv 0) (pa_cons pe_int pa_nil))) (fun _ _ => rfl)) (fun _ _ => rfl)) pa_nil))))))))
 (pss_one (ps_ret (pv 3))))), ?_⟩
    refine ⟨Nat.zero_le _, fun p hp => ⟨_, rfl, l, seed, cnt, 4, rfl, S.same (same_new hp), by omega, by decide, by decide, fun kind cnt1 H1 d0 d1 S1 hc1 k1 => ⟨_, _, rfl, ?_⟩⟩⟩
    have npl := S.ne hp
    have gp1 := k1 _ _ upd_same npl
    have k01 : Keep1 H H1 l := (Keep1.of (same_new hp)).trans k1
    refine ⟨_, rfl, _, rfl, M, 1, rfl, rfl, l, seed, cnt1, M + 1, rfl, S1, by omega, by omega, lim10 (by omega), fun m cnt2 H2 m0 m1 S2 hc2 k2 => ?_⟩
    refine ⟨m, rfl, by omega, by omega, for_range (lo := 0) (n := m.toNat) (fun i σ H' => ∃ ks cnt' y5 y6, σ = [some (.ref l), some (.int M), some (.int g), some (.ref p), some (.int kind), y5, y6] ∧ Rng H' l seed cnt' ∧ cnt' ≤ cnt + 2 + 6 * i ∧ Keep1 H H' l ∧ H' p = some (.lst (List.map V.int ks)) ∧ ks.length = i ∧ ∀ k ∈ ks, 2 ≤ k ∧ k ≤ 1000000)
      ⟨[], cnt2, none, none, rfl, S2, by omega, k01.trans k2, k2 _ _ gp1 npl, rfl, fun k z => nomatch z⟩ ?_ ?_⟩
    · rintro i σ H3 hi ⟨ks, cnt3, y5, y6, rfl, S3, hc3, k3, gp3, lk, hk⟩
      -- some
      refine ⟨_, rfl, l, seed, cnt3, 4, rfl, S3, by omega, by decide, by decide, fun z4 cnt4 H4 z40 z41 S4 hc4 k4 => ⟨2, z4, rfl, rfl, ?_⟩⟩
      have gp4 := k4 _ _ gp3 npl
      refine ⟨_, rfl, Nat.le_of_lt (small1000 (show 1 ≤ 1000 by decide)), fun t5 ht5 => ?_⟩
      have gp5 := same_new (o := .lst [.int 2]) ht5 _ _ gp4
      obtain ⟨fst, fm, fa⟩ := nth_of (xs := ks ++ [2]) (z := 0) (Int.le_refl 0) (by rw [List.length_append]; show (0 : Int) < ((ks.length + 1 : Nat) : Int); omega)
      rw [List.map_append] at fa
      have fb : 2 ≤ fst ∧ fst ≤ 1000000 := by
        rcases List.mem_append.mp fm with z | z
        · exact hk fst z
        · rw [List.mem_singleton.mp z]
          decide
      refine ⟨p, t5, _, _, rfl, rfl, gp5, upd_same, Nat.le_of_lt (small1000 (by rw [List.length_map]; show ks.length + 1 ≤ 1000; omega)), fun t6 ht6 => ⟨t6, _, 0, .int fst, rfl, rfl, SqL.of upd_same, fa, ?_⟩⟩
      have s46 := (same_new (o := .lst [.int 2]) ht5).trans (same_new (o := .lst (ks.map V.int ++ [.int 2])) ht6)
      generalize (upd (upd H4 t5 (.lst [.int 2])) t6 (.lst (ks.map V.int ++ [.int 2]))) = H6 at s46 ⊢
      have S6 := S4.same s46
      refine ⟨_, rfl, _, rfl, l, seed, cnt4, 3, rfl, S6, by omega, by decide, by decide, fun z7 cnt7 H7 z70 z71 S7 hc7 k7 => ⟨g, z7, rfl, rfl, 2, g - z7, rfl, ?_⟩⟩
      obtain ⟨mx, emx⟩ : ∃ mx, mx = (if g - z7 > 2 then g - z7 else 2) := ⟨_, rfl⟩
      have mb : 2 ≤ mx ∧ mx ≤ 1000000 := by
        subst emx
        split <;> omega
      rw [← emx]
      refine ⟨Nat.le_of_lt (small1000 (show 3 ≤ 1000 by decide)), fun t8 ht8 => ?_⟩
      have n8l := S7.ne ht8
      have S8 := S7.same (same_new (o := .lst [.int (2 + z4), .int fst, .int mx]) ht8)
      refine ⟨_, rfl, .inl ⟨rfl, _, SqL.of upd_same⟩, _, rfl, _, rfl, g, 1, rfl, rfl, l, seed, cnt7, g - 1, rfl, S8, by omega, by omega, lim10 (by omega), fun z9 cnt9 H9 z90 z91 S9 hc9 k9 => ?_⟩
      have g89 := k9 _ _ upd_same n8l
      refine ⟨2, z9, rfl, rfl, t8, _, _, rfl, rfl, g89, small1000 (show 3 ≤ 1000 by decide), ?_⟩
      have np8 : p ≠ t8 := ne_of_none (k7 _ _ (s46 _ _ gp4) npl) ht8
      have gp9 := k9 _ _ (same_new ht8 _ _ (k7 _ _ (s46 _ _ gp4) npl)) npl
      have gp10 : (upd H9 t8 (.lst ([.int (2 + z4), .int fst, .int mx] ++ [.int (2 + z9)]))) p = some (.lst (ks.map V.int)) := by rw [upd_ne np8]; exact gp9
      have g810 : (upd H9 t8 (.lst ([.int (2 + z4), .int fst, .int mx] ++ [.int (2 + z9)]))) t8 = some (.lst ([2 + z4, fst, mx, 2 + z9].map V.int)) := upd_same
      have S10 := S9.upd (o := .lst ([.int (2 + z4), .int fst, .int mx] ++ [.int (2 + z9)])) n8l
      have hp8 : H t8 = none := Rng.free ((k3.trans k4).trans ((Keep1.of s46).trans k7)) S7 ht8
      have k10 : Keep1 H (upd H9 t8 (.lst ([.int (2 + z4), .int fst, .int mx] ++ [.int (2 + z9)]))) l := fun b o e nb => by
        rw [upd_ne (ne_of_none e hp8)]
        exact k9 _ _ (same_new ht8 _ _ (k7 _ _ (s46 _ _ (k4 _ _ (k3 _ _ e nb) nb)) nb)) nb
      generalize (upd H9 t8 (.lst ([.int (2 + z4), .int fst, .int mx] ++ [.int (2 + z9)]))) = H10 at gp10 g810 S10 k10 ⊢
      -- found.insert(0, ..)
      refine ⟨_, rfl, .inl ⟨rfl, _, SqL.of gp10⟩, _, rfl, _, rfl, _, rfl, l, seed, cnt9, 4, rfl, S10, by omega, by decide, by decide, fun z11 cnt11 H11 z110 z111 S11 hc11 k11 => ?_⟩
      refine ⟨Nat.le_of_lt (small1000 (show 2 ≤ 1000 by decide)), fun t12 ht12 => ?_⟩
      have n12 := S11.ne ht12
      refine ⟨_, rfl, l, seed, cnt11, 2, rfl, S11.same (same_new ht12), by omega, by decide, by decide, fun z13 cnt13 H13 z130 z131 S13 hc13 k13 => ?_⟩
      obtain ⟨j, jm, ja⟩ := nth_of (xs := [kind, z11]) (z := z13) z130 z131
      have jb : 0 ≤ j ∧ j < 4 := by
        rcases List.mem_cons.mp jm with z | z
        · omega
        · have := List.mem_singleton.mp z
          omega
      obtain ⟨k, km, ka⟩ := nth_of (xs := [2 + z4, fst, mx, 2 + z9]) (z := j) jb.1 jb.2
      have kb : 2 ≤ k ∧ k ≤ 1000000 := by
        simp at km
        omega
      have k1013 := (k11.trans (Keep1.of (same_new (o := .lst [.int kind, .int z11]) ht12))).trans k13
      have gp13 := k1013 _ _ gp10 npl
      refine ⟨t12, _, z13, .int j, rfl, rfl, SqL.of (k13 _ _ upd_same n12), ja, t8, _, j, .int k, rfl, rfl, SqL.of (k1013 _ _ g810 n8l), ka, p, _, 0, .int k, rfl, rfl, gp13, (by rw [List.length_map]; exact small1000 (by omega)), Int.le_refl 0, by decide, ?_⟩
      refine ⟨k :: ks, cnt13, _, _, rfl, S13.upd npl, by omega, fun b o e nb => ?_, ?_, by rw [List.length_cons, lk], fun x hx => ?_⟩
      · rw [upd_ne (ne_of_none e hp)]
        exact k1013 _ _ (k10 _ _ e nb) nb
      · rw [upd_same]
        rfl
      · rcases List.mem_cons.mp hx with z | z
        · rw [z]
          exact kb
        · exact hk x z
    · rintro σ H3 ⟨ks, cnt3, y5, y6, rfl, S3, hc3, k3, gp3, lk, hk⟩
      exact ⟨_, rfl, q p ks cnt3 H3 hp S3 (by omega) k3 gp3 (by omega) hk⟩
end
end Sq
set_option Elab.async false
set_option linter.all false
set_option maxRecDepth 100000
set_option maxHeartbeats 4000000
set_option exponentiation.threshold 2000
namespace Sq
open PySem PySem.Spec PyProof.Rows L2
section
variable {P : Program} {w : World} {K : PySem.W.Frag} {mg : Str → Option Value} {base : Heap}
def spIsNum : Sp := fun vs H Q _ => ∃ x : Str, vs = [.str x] ∧ x.length ≤ sizeLine ∧ Q (.bl (numOk (TL.tl x))) H
theorem ok_isnumber {f : Addr} {fd : FuncData} {tm : Tok} (F : Fun K "is_number" "is_number" s_isnumber f fd) (B : Bi mg) (g_MOSTDIGITS : mg "MOST_DIGITS" = some (.int 200 tm)) : FnOk P w K mg base CX0 1 f fd ["digits"] spIsNum := by
  refine F.ok sc_isnumber (fun vs H Q E h => ?_) (fun cdv A outer s H vs Q E hr h => ?_)
  · obtain ⟨x, rfl, _⟩ := h
    rfl
  · obtain ⟨x, rfl, hl, q⟩ := h
    refine ⟨_, (pss_cons (ps_if (PW.pt (pw_or (pt_not (pt_val (pe_m0 PySem.F.slot_str_isascii PySem.F.type_str_isascii mt_isascii (pv 0)))) (pw_or (pt_not (pt_val (pe_m0 PySem.F.slot_str_isdigit PySem.F.type_str_isdigit mt_isdigit (pv 0)))) (pw_or1 (pt_cmpR op_gt (pe_callB (id := "len") call_len_str (by rfl) B.n_len (by decide +kernel) (pa_cons (pv 0) pa_nil)) (pe_glob (v := .int 200) (by rfl) g_MOSTDIGITS ⟨_, rfl⟩) (nomark _))))))
 (pss_one (ps_ret pe_bl))
 pss_nil)
 (pss_one (ps_ret (pe_and (pe_cmpR op_ne (pe_ix ix_str (pv 0) pe_int (fun _ _ => rfl)) pe_str (nomark _)) (pe_one (pe_cmpR op_ne (pv 0) pe_str (nomark _))))))), ?_⟩
    have ad := asc_dig x
    have hlen : x.length = (TL.tl x).length := TL.len_tl x
    refine ⟨_, rfl, ⟨_, rfl⟩, x, rfl, rfl, trivial, _, rfl, ?_⟩
    cases e1 : Txt.isascii x with
    | false =>
      rw [e1] at ad
      have e : numOk (TL.tl x) = false := by
        cases z : numOk (TL.tl x) with
        | false => rfl
        | true =>
          obtain ⟨a, b, _⟩ := numOk_iff.mp z
          rw [digB_all.mpr a, List.isEmpty_eq_false_iff.mpr b] at ad
          cases ad
      rw [e] at q
      exact iteT q
    | true =>
      refine iteF ⟨_, rfl, ⟨_, rfl⟩, x, rfl, rfl, trivial, _, rfl, ?_⟩
      cases e2 : Txt.isdigit x with
      | false =>
        rw [e1, e2] at ad
        have e : numOk (TL.tl x) = false := by
          cases z : numOk (TL.tl x) with
          | false => rfl
          | true =>
            obtain ⟨a, b, _⟩ := numOk_iff.mp z
            rw [digB_all.mpr a, List.isEmpty_eq_false_iff.mpr b] at ad
            cases ad
        rw [e] at q
        exact iteT q
      | true =>
        rw [e1, e2] at ad
        have a1 : digB (TL.tl x) = true := by cases z : digB (TL.tl x) with
          | true => rfl
          | false => rw [z] at ad; cases ad
        have a2 : (TL.tl x).isEmpty = false := by cases z : (TL.tl x).isEmpty with
          | false => rfl
          | true => rw [a1, z] at ad; cases ad
        refine iteF ⟨_, rfl, _, rfl, hl, _, _, rfl, rfl, _, rfl, ?_⟩
        by_cases c : (x.length : Int) > 200
        · rw [decide_eq_true c]
          have e : numOk (TL.tl x) = false := by
            cases z : numOk (TL.tl x) with
            | false => rfl
            | true => have := (numOk_iff.mp z).2.2.1; omega
          rw [e] at q
          exact iteT q
        · rw [decide_eq_false c]
          refine iteF ?_
          cases et : TL.tl x with
          | nil => rw [et] at a2; cases a2
          | cons c0 r =>
            have at0 : atI (TL.tl x) 0 = some c0 := atI_nat (j := 0) (show (TL.tl x)[0]? = some c0 by rw [et]; rfl)
            refine ⟨_, rfl, x, 0, c0, rfl, rfl, hl, at0, rfl, _, rfl, ?_⟩
            have e48 : (V.str ⟨#[c0]⟩ = V.str ("0" : Str)) ↔ c0 = 48 := by
              constructor
              · intro z
                have z1 : (⟨#[c0]⟩ : Str) = "0" := by injection z
                have z2 := congrArg TL.tl z1
                have z3 : TL.tl ("0" : Str) = [48] := by decide +kernel
                rw [z3] at z2
                exact (List.cons.inj (show [c0] = [48] from z2)).1
              · rintro rfl
                exact congrArg V.str (TL.ext_tl (show TL.tl (⟨#[48]⟩ : Str) = TL.tl ("0" : Str) by decide +kernel))
            have e49 : (V.str x = V.str ("1" : Str)) ↔ TL.tl x = [49] := by
              have z3 : TL.tl ("1" : Str) = [49] := by decide +kernel
              constructor
              · intro z
                have z1 : x = "1" := by injection z
                rw [z1]
                exact z3
              · intro z
                exact congrArg V.str (TL.ext_tl (z.trans z3.symm))
            have l200 : (TL.tl x).length ≤ 200 := by omega
            by_cases c1 : c0 = 48
            · rw [decide_eq_true (e48.mpr c1)]
              have e : numOk (TL.tl x) = false := by
                cases z : numOk (TL.tl x) with
                | false => rfl
                | true => exact absurd (by rw [et, c1]; rfl) (numOk_iff.mp z).2.2.2.1
              rw [e] at q
              exact iteF q
            · rw [decide_eq_false fun z => c1 (e48.mp z)]
              refine iteT ⟨_, rfl, rfl, ?_⟩
              have e : numOk (TL.tl x) = !decide (V.str x = V.str ("1" : Str)) := by
                by_cases c2 : TL.tl x = [49]
                · rw [decide_eq_true (e49.mpr c2), c2]
                  rfl
                · rw [decide_eq_false fun z => c2 (e49.mp z)]
                  exact numOk_iff.mpr ⟨digB_all.mp a1, List.isEmpty_eq_false_iff.mp a2, l200, by rw [et]; exact fun z => c1 (Option.some.inj z), c2⟩
              rw [e] at q
              exact q
end
section
variable {P : Program} {w : World} {K : PySem.W.Frag} {mg : Str → Option Value} {base : Heap}
open NumText (digitsVal AllDigits)
def spReadT : Sp := fun vs H Q _ => ∃ (x : Str) (ks : List Int), vs = [.str x] ∧ x.length ≤ 10000 ∧ Small (TL.tl x) ∧ rText (TL.tl x) = some ks ∧ ∀ p H', H p = none → Same H H' → H' p = some (.lst (ks.map V.int)) → Q (.ref p) H'
theorem ok_readlist {f : Addr} {fd : FuncData} (F : Fun K "read_list" "read_list" s_readlist f fd) (B : Bi mg) (D_isnumber : Df P w K mg base 1 "is_number" ["digits"] spIsNum) : FnOk P w K mg base CX0 2 f fd ["text"] spReadT := by
  refine F.ok sc_readlist (fun vs H Q E h => ?_) (fun cdv A outer s H vs Q E hr h => ?_)
  · obtain ⟨x, ks, rfl, _⟩ := h
    rfl
  · obtain ⟨x, ks, rfl, hx, sm, hr0, q⟩ := h
    refine ⟨_, (pss_cons (ps_if (pt_cmpR op_eq (pv 0) pe_str (nomark _))
 (pss_one (ps_ret (pe_lst pa_nil)))
 pss_nil)
 (pss_cons (ps_set (i := 1) sc_readlist.nd rfl (Or.inl rfl) (pe_lst pa_nil))
 (pss_cons (ps_for PassesOwn.never rfl (pi_list (pe_split (pv 0) pe_str)) (pg_name (i := 2) sc_readlist.nd rfl (Or.inl rfl))
 (pss_cons (ps_asg (pe_partition (pv 2) pe_str) (pg_tup rfl (pgs_cons (pg_name (i := 3) sc_readlist.nd rfl (Or.inl rfl)) (pgs_cons (pg_name (i := 4) sc_readlist.nd rfl (Or.inl rfl)) (pgs_cons (pg_name (i := 5) sc_readlist.nd rfl (Or.inl rfl)) pgs_nil)))))
 (pss_cons (ps_if (PW.pt (pw_or (pt_not (pt_val (pe_callD D_isnumber (hr.mono (by omega)) (by rfl) (pa_cons (pv 3) pa_nil)))) (pw_or1 (PW.pt (pw_and (pt_truth (pv 4) (by intro _; rfl)) (pw_and1 (pt_not (pt_val (pe_callD D_isnumber (hr.mono (by omega)) (by rfl) (pa_cons (pv 5) pa_nil))))))))))
 (pss_one ps_never)
 pss_nil)
 (pss_cons (ps_set (i := 6) sc_readlist.nd rfl (Or.inl rfl) (pe_callTy (T := "int") call_int_str (by rfl) B.n_int (by decide +kernel) (pa_cons (pv 3) pa_nil)))
 (pss_cons (ps_if (PW.pt (pw_and (pt_truth (pv 1) (by intro _; rfl)) (pw_and1 (pt_cmpR op_eq (pe_ix (r := rIxL K) ix_list (pv 1) (pe_un un_neg pe_int) (fun _ _ => rfl)) (pv 6) (nomark _)))))
 (pss_one ps_never)
 pss_nil)
 (pss_one (ps_expr (pe_bm PySem.F.plainAttrs_list PySem.F.slot_list_extend PySem.F.type_list_extend mt_extend (pv 1) (pa_cons (pe_op op_rep (pe_lst (pa_cons (pv 6) pa_nil)) (pe_ifExp (pt_truth (pv 4) (by intro _; rfl)) (pe_callTy (T := "int") call_int_str (by rfl) B.n_int (by decide +kernel) (pa_cons (pv 5) pa_nil)) pe_int)) pa_nil)))))))))
 (pss_one (ps_ret (pv 1)))))), ?_⟩
    have lim : sizeLine = 16777216 := sizeLine_eq
    have zn : TL.tl ("none" : Str) = [110, 111, 110, 101] := by decide +kernel
    refine ⟨_, rfl, rfl, _, rfl, ite2 (fun c => ?_) (fun c => ?_)⟩
    · have e : x = "none" := by have := of_decide_eq_true c; injection this
      rw [e, zn] at hr0
      unfold rText at hr0
      rw [if_pos rfl] at hr0
      cases hr0
      exact ⟨z0L, fun p hp => q p _ hp (same_new hp) upd_same⟩
    · have ne : TL.tl x ≠ [110, 111, 110, 101] := fun z => c (decide_eq_true (congrArg V.str (TL.ext_tl (z.trans zn.symm))))
      unfold rText at hr0
      rw [if_neg ne] at hr0
      obtain ⟨ps, eps⟩ : ∃ ps, ps = Txt.split x ", " := ⟨_, rfl⟩
      have tps : ps.map TL.tl = TL.spl [44, 32] 0 [] (TL.tl x) := by rw [eps]; exact split_sep x
      have lps : ps.length ≤ 10001 := by
        have a := spl_len [44, 32] 0 [] (TL.tl x)
        rw [← tps, List.length_map, ← TL.len_tl] at a
        omega
      unfold Small at sm
      rw [← tps] at sm hr0
      refine ⟨z0L, fun d hd => ?_⟩
      refine ⟨_, rfl, ⟨_, rfl⟩, x, ", ", rfl, rfl, by decide +kernel, by omega, fun p hp => ?_⟩
      rw [← eps]
      have ned : p ≠ d := fun z => by rw [z, upd_same] at hp; cases hp
      have nd0 : H p = none := (same_new hd).free hp
      refine ⟨p, rfl, ⟨_, SqL.of upd_same⟩, for_list (K := K) (a := p) (xs := ps.map V.str) (fun i σ H' => ∃ F y2 y3 y4 y5 y6, σ = [some (.str x), some (.ref d), y2, y3, y4, y5, y6] ∧ Same H H' ∧ H' p = some (.lst (ps.map V.str)) ∧ H' d = some (.lst (F.map V.int)) ∧ F.length ≤ 1000 * i ∧ rAll F ((ps.map TL.tl).drop i) = some ks)
        ⟨[], none, none, none, none, none, rfl, (same_new hd).trans (same_new hp), upd_same, by rw [upd_ne ned.symm]; exact upd_same, Nat.zero_le _, hr0⟩ (fun i σ H' _ h => by obtain ⟨_, _, _, _, _, _, _, _, g, _⟩ := h; exact SqL.of g) ?_ ?_⟩
      · rintro i v σ H1 hi ⟨F, y2, y3, y4, y5, y6, rfl, s1, gp, gd, lF, eF⟩
        obtain ⟨y, hy, rfl⟩ := str_at hi
        have il : i < ps.length := (List.getElem?_eq_some_iff.mp hy).1
        have dr : (ps.map TL.tl).drop i = TL.tl y :: (ps.map TL.tl).drop (i + 1) := by
          have lt : i < (ps.map TL.tl).length := by rw [List.length_map]; exact il
          rw [List.drop_eq_getElem_cons lt, List.getElem_map]
          obtain ⟨_, e⟩ := List.getElem?_eq_some_iff.mp hy
          rw [e]
        rw [dr] at eF
        obtain ⟨F', st, eF'⟩ := rAll_cons eF
        obtain ⟨n, k, rp, last, rfl⟩ := rStep_some st
        obtain ⟨D, M, N, ep, okD, en, mk⟩ := part_cut rp
        have ly : y.length ≤ x.length := by
          have a := spl_mem [44, 32] 0 [] (TL.tl x) (TL.tl y) (by rw [← tps]; exact List.mem_map.mpr ⟨y, List.mem_of_getElem? hy, rfl⟩)
          rw [TL.len_tl, TL.len_tl]
          simpa using a
        have k1000 : k ≤ 1000 := sm (TL.tl y) (List.mem_map.mpr ⟨y, List.mem_of_getElem? hy, rfl⟩) n k rp
        have lD : D.length ≤ sizeLine := by have a := (numOk_iff.mp okD).2.2.1; rw [← TL.len_tl] at a; omega
        refine ⟨_, rfl, ⟨_, rfl⟩, y, "^", rfl, rfl, by decide +kernel, by omega, fun t ht => ?_⟩
        rw [ep]
        refine ⟨t, _, rfl, .inl (.inl upd_same), rfl, _, _, rfl, _, _, rfl, _, _, rfl, rfl, ?_⟩
        have s2 : Same H1 (upd H1 t (.tup [.str D, .str M, .str N])) := same_new ht
        refine ⟨_, rfl, D, rfl, lD, _, rfl, ?_⟩
        rw [okD]
        refine iteF ?_
        have io := int_ok okD
        have lastF : F ≠ [] → ∃ z, F.getLast? = some z ∧ (F.map V.int).getLast? = some (.int z) ∧ z ≠ (n : Int) := fun h => by
          obtain ⟨z, ez⟩ : ∃ z, F.getLast? = some z := ⟨F.getLast h, List.getLast?_eq_some_getLast h⟩
          refine ⟨z, ez, ?_, fun e => last (by rw [ez, e])⟩
          rw [List.getLast?_map, ez]
          rfl
        have gd2 : ∀ {t' : Addr} {o : HO}, H1 t' = none → (upd H1 t' o) d = some (.lst (F.map V.int)) := fun h => same_new h _ _ gd
        have gdt := gd2 (o := .tup [.str D, .str M, .str N]) ht
        have fin : ∀ (kk : Nat) (H2 H3 : Hp) (l r : Addr) (σ' : L2.St) (v3 v4 v5 v6 : Option V), kk = k → Same H1 H2 → H2 d = some (.lst (F.map V.int)) → H2 l = none → (upd H2 l (.lst [V.int (n : Int)])) r = none → H3 = upd (upd H2 l (.lst [V.int (n : Int)])) r (.lst (List.replicate kk [V.int (n : Int)]).flatten) →
            ∃ l b xs zs, V.ref d = .ref l ∧ [V.ref r] = [V.ref b] ∧ H3 l = some (.lst xs) ∧ H3 b = some (.lst zs) ∧ xs.length + zs.length ≤ sizeLine ∧ ∃ F' y2 y3 y4 y5 y6, [some (.str x), some (.ref d), some (.str y), v3, v4, v5, v6] = [some (V.str x), some (V.ref d), y2, y3, y4, y5, y6] ∧ Same H (upd H3 l (.lst (xs ++ zs))) ∧ (upd H3 l (.lst (xs ++ zs))) p = some (.lst (ps.map V.str)) ∧ (upd H3 l (.lst (xs ++ zs))) d = some (.lst (F'.map V.int)) ∧ F'.length ≤ 1000 * (i + 1) ∧ rAll F' ((ps.map TL.tl).drop (i + 1)) = some ks := fun kk H2 H3 l r σ' v3 v4 v5 v6 ek s12 g2 hl hr' e3 => by
          subst ek
          have gd3 : H3 d = some (.lst (F.map V.int)) := by rw [e3]; exact same_new hr' _ _ (same_new hl _ _ g2)
          have gp3 : H3 p = some (.lst (ps.map V.str)) := by rw [e3]; exact same_new hr' _ _ (same_new hl _ _ (s12 _ _ gp))
          have s3 : Same H H3 := by rw [e3]; exact ((s1.trans s12).trans (same_new hl)).trans (same_new hr')
          have gr : H3 r = some (.lst ((List.replicate kk (n : Int)).map V.int)) := by rw [e3, upd_same, rep_one, List.map_replicate]
          refine ⟨d, r, _, _, rfl, rfl, gd3, gr, ?_, F ++ List.replicate kk (n : Int), _, _, _, _, _, rfl, fun b o e => ?_, ?_, ?_, ?_, eF'⟩
          · rw [List.length_map, List.length_map, List.length_replicate]
            omega
          · rw [upd_ne (ne_of_none e hd)]
            exact s3 _ _ e
          · rw [upd_ne ned]
            exact gp3
          · rw [upd_same, List.map_append]
          · rw [List.length_append, List.length_replicate]
            omega
        have w1 : 1 ≤ sizeLine := by omega
        rcases mk with ⟨lM, ek⟩ | ⟨lM, okN', ek⟩
        · have tr : M.length ≤ sizeLine ∧ false = ((M.length : Int) != 0) := ⟨by omega, by rw [lM]; rfl⟩
          refine ⟨_, rfl, false, tr, iteF (iteF ?_)⟩
          refine ⟨_, rfl, D, _, rfl, io.1, io.2, ?_⟩
          rw [← en]
          refine ⟨_, rfl, !(F.map V.int).isEmpty, .inl ⟨_, SqL.of gdt, rfl⟩, ?_⟩
          by_cases cF : F = []
          · have e0 : (!(F.map V.int).isEmpty) = false := by rw [cF]; rfl
            rw [e0]
            refine iteF (iteF ?_)
            refine ⟨_, rfl, .inl ⟨rfl, _, SqL.of gdt⟩, _, rfl, w1, fun l hl => ?_⟩
            refine ⟨_, rfl, false, tr, iteF ⟨_, 1, _, rfl, rfl, upd_same, by decide, by decide, Nat.le_of_lt (small1000 (show 1 * 1 ≤ 1000 by decide)), fun r hr' => ?_⟩⟩
            exact fin 1 _ _ l r [] _ _ _ _ ek.symm s2 gdt hl hr' rfl
          · have e1 : (!(F.map V.int).isEmpty) = true := by
              cases F with
              | nil => exact absurd rfl cF
              | cons _ _ => rfl
            rw [e1]
            obtain ⟨z, ez, ez2, nz⟩ := lastF cF
            refine iteT ⟨_, rfl, 1, rfl, d, _, -1, .int z, rfl, rfl, SqL.of gdt, atI_lst _ _ ez2, _, rfl, rfl, _, rfl, ?_⟩
            rw [decide_eq_false (fun e => nz (by injection e))]
            refine iteF ?_
            refine ⟨_, rfl, .inl ⟨rfl, _, SqL.of gdt⟩, _, rfl, w1, fun l hl => ?_⟩
            refine ⟨_, rfl, false, tr, iteF ⟨_, 1, _, rfl, rfl, upd_same, by decide, by decide, Nat.le_of_lt (small1000 (show 1 * 1 ≤ 1000 by decide)), fun r hr' => ?_⟩⟩
            exact fin 1 _ _ l r [] _ _ _ _ ek.symm s2 gdt hl hr' rfl
        · have tr : M.length ≤ sizeLine ∧ true = ((M.length : Int) != 0) := ⟨by omega, by rw [lM]; rfl⟩
          have iN := int_ok okN'
          have lN : N.length ≤ sizeLine := by have a := (numOk_iff.mp okN').2.2.1; rw [← TL.len_tl] at a; omega
          refine ⟨_, rfl, true, tr, iteT ?_⟩
          refine ⟨_, rfl, N, rfl, lN, _, rfl, ?_⟩
          rw [okN']
          refine iteF ?_
          refine ⟨_, rfl, D, _, rfl, io.1, io.2, ?_⟩
          rw [← en]
          refine ⟨_, rfl, !(F.map V.int).isEmpty, .inl ⟨_, SqL.of gdt, rfl⟩, ?_⟩
          by_cases cF : F = []
          · have e0 : (!(F.map V.int).isEmpty) = false := by rw [cF]; rfl
            rw [e0]
            refine iteF (iteF ?_)
            refine ⟨_, rfl, .inl ⟨rfl, _, SqL.of gdt⟩, _, rfl, w1, fun l hl => ?_⟩
            refine ⟨_, rfl, true, tr, iteT ⟨_, rfl, N, _, rfl, iN.1, iN.2, ?_⟩⟩
            rw [← ek]
            refine ⟨_, (k : Int), _, rfl, rfl, upd_same, by omega, by omega, ?_, fun r hr' => ?_⟩
            · show 1 * ((k : Int)).toNat ≤ sizeLine
              omega
            · exact fin k _ _ l r [] _ _ _ _ rfl s2 gdt hl hr' rfl
          · have e1 : (!(F.map V.int).isEmpty) = true := by
              cases F with
              | nil => exact absurd rfl cF
              | cons _ _ => rfl
            rw [e1]
            obtain ⟨z, ez, ez2, nz⟩ := lastF cF
            refine iteT ⟨_, rfl, 1, rfl, d, _, -1, .int z, rfl, rfl, SqL.of gdt, atI_lst _ _ ez2, _, rfl, rfl, _, rfl, ?_⟩
            rw [decide_eq_false (fun e => nz (by injection e))]
            refine iteF ?_
            refine ⟨_, rfl, .inl ⟨rfl, _, SqL.of gdt⟩, _, rfl, w1, fun l hl => ?_⟩
            refine ⟨_, rfl, true, tr, iteT ⟨_, rfl, N, _, rfl, iN.1, iN.2, ?_⟩⟩
            rw [← ek]
            refine ⟨_, (k : Int), _, rfl, rfl, upd_same, by omega, by omega, ?_, fun r hr' => ?_⟩
            · show 1 * ((k : Int)).toNat ≤ sizeLine
              omega
            · exact fin k _ _ l r [] _ _ _ _ rfl s2 gdt hl hr' rfl
      · rintro σ H1 ⟨F, y2, y3, y4, y5, y6, rfl, s1, gp, gd, lF, eF⟩
        rw [List.length_map] at eF
        rw [List.drop_of_length_le (by rw [List.length_map]; exact Nat.le_refl _)] at eF
        cases eF
        exact ⟨_, rfl, q d _ hd s1 gd⟩
end
section
variable {P : Program} {w : World} {K : PySem.W.Frag} {mg : Str → Option Value} {base : Heap}
/-! ### the checks -/
def spCheckList (K : PySem.W.Frag) : Sp := fun vs H Q _ => ∃ (a : Addr) (ks : List Int), vs = [.ref a] ∧ SqL K H a (ks.map V.int) ∧ (∀ k ∈ ks, 2 ≤ k) ∧ ∀ H', Same H H' → Q .non H'
theorem ok_checklist {f : Addr} {fd : FuncData} (F : Fun K "check_list" "check_list" s_checklist f fd) (B : Bi mg) : FnOk P w K mg base CX0 1 f fd ["replacements"] (spCheckList K) := by
  refine F.ok sc_checklist (fun vs H Q E h => ?_) (fun cdv A outer s H vs Q E hr h => ?_)
  · obtain ⟨a, ks, rfl, _⟩ := h
    rfl
  · obtain ⟨a, ks, rfl, hS, hk, q⟩ := h
    refine ⟨_, (pss_one (ps_for PassesOwn.never rfl (pi_enum (by rfl) B.n_enumerate (pa_cons (pv 0) pa_nil)) (pg_tup rfl (pgs_cons (pg_name (i := 1) sc_checklist.nd rfl (Or.inl rfl)) (pgs_cons (pg_name (i := 2) sc_checklist.nd rfl (Or.inl rfl)) pgs_nil)))
 (pss_one (ps_if (pt_cmpR op_lt (pv 2) pe_int (nomark _))
 (pss_one ps_never)
 pss_nil)))), ?_⟩
    refine ⟨_, rfl, a, ks.map V.int, rfl, hS, for_it walk_enum (fun i σ H' => Same H H' ∧ ∃ y z, σ = [some (.ref a), y, z]) ⟨Same.refl H, none, none, rfl⟩ (fun i σ H' _ h => h.1.seq hS) ?_ ?_⟩
    · rintro i σ H' v H2 hi ⟨sm, y, z, rfl⟩ ⟨T, x1, x2, rfl, nT, rfl, e1, e2⟩
      obtain ⟨k, hk', rfl⟩ := map_at e2
      cases e1
      refine ⟨T, _, rfl, .inl (.inl upd_same), rfl, _, _, rfl, _, _, rfl, rfl, ?_⟩
      refine ⟨_, rfl, _, _, rfl, rfl, _, rfl, ite2 (fun c => ?_) (fun c => ?_)⟩
      · have := hk k (List.mem_of_getElem? hk')
        have c' : k < 2 := of_decide_eq_true c
        omega
      · exact ⟨sm.trans (same_new nT), _, _, rfl⟩
    · rintro σ H' ⟨sm, y, z, rfl⟩
      exact q H' sm
def spCheckNumber : Sp := fun vs H Q _ => ∃ (n l : Int), vs = [.int n, .int l] ∧ l ≤ n ∧ Q .non H
theorem ok_checknumber {f : Addr} {fd : FuncData} (F : Fun K "check_number" "check_number" s_checknumber f fd) : FnOk P w K mg base CX0 1 f fd ["number", "least"] spCheckNumber := by
  refine F.ok sc_checknumber (fun vs H Q E h => ?_) (fun cdv A outer s H vs Q E hr h => ?_)
  · obtain ⟨n, l, rfl, _⟩ := h
    rfl
  · obtain ⟨n, l, rfl, hl, q⟩ := h
    refine ⟨_, (pss_one (ps_if (pt_cmpR op_lt (pv 0) (pv 1) (nomark _))
 (pss_one ps_never)
 pss_nil)), ?_⟩
    refine ⟨_, rfl, _, rfl, _, _, rfl, rfl, _, rfl, ite2 (fun c => ?_) (fun c => q)⟩
    have c' : n < l := of_decide_eq_true c
    omega
end
section
variable {P : Program} {w : World} {K : PySem.W.Frag} {mg : Str → Option Value} {base : Heap} {c fI : Nat → Addr} {qn : Nat → Str} {cB : Addr}
def spOnceS : Sp := fun vs H Q _ => ∃ (n k : Int), vs = [.int n, .int k] ∧ 2 ≤ k ∧ k < 1073741824 ∧ ∀ H', Same H H' → Q (.int (once n k)) H'
theorem ok_lengthafterone {f : Addr} {fd : FuncData} (F : Fun K "length_after_one" "length_after_one" s_lengthafterone f fd) (B : Bi mg) : FnOk P w K mg base CX0 1 f fd ["length", "number"] spOnceS := by
  refine F.ok sc_lengthafterone (fun vs H Q E h => ?_) (fun cdv A outer s H vs Q E hr h => ?_)
  · obtain ⟨n, k, rfl, _⟩ := h
    rfl
  · obtain ⟨n, k, rfl, k1, k2, q⟩ := h
    refine ⟨_, (pss_cons (ps_asg (pe_callB (id := "divmod") call_divmod (by rfl) B.n_divmod (by decide +kernel) (pa_cons (pv 0) (pa_cons (pv 1) pa_nil))) (pg_tup rfl (pgs_cons (pg_name (i := 2) sc_lengthafterone.nd rfl (Or.inl rfl)) (pgs_cons (pg_name (i := 3) sc_lengthafterone.nd rfl (Or.inl rfl)) pgs_nil))))
 (pss_one (ps_ret (pe_op op_add (pv 2) (pv 3))))), ?_⟩
    refine ⟨_, rfl, _, rfl, n, k, rfl, ⟨by omega, k2⟩, fun p hp => ?_⟩
    exact ⟨p, _, rfl, .inl (.inl upd_same), rfl, _, _, rfl, _, _, rfl, rfl, _, rfl, _, rfl, _, _, rfl, rfl, q _ (same_new hp)⟩
def spSqzS (K : PySem.W.Frag) : Sp := fun vs H Q _ => ∃ (n : Int) (a : Addr) (ks : List Int), vs = [.int n, .ref a] ∧ SqL K H a (ks.map V.int) ∧ Rpl ks ∧ ∀ H', Same H H' → Q (.int (sq n ks)) H'
theorem ok_lengthafter {f : Addr} {fd : FuncData} (F : Fun K "length_after" "length_after" s_lengthafter f fd) (D_lengthafterone : Df P w K mg base 1 "length_after_one" ["length", "number"] spOnceS) : FnOk P w K mg base CX0 2 f fd ["length", "replacements"] (spSqzS K) := by
  refine F.ok sc_lengthafter (fun vs H Q E h => ?_) (fun cdv A outer s H vs Q E hr h => ?_)
  · obtain ⟨n, a, ks, rfl, _⟩ := h
    rfl
  · obtain ⟨n, a, ks, rfl, hS, hk, q⟩ := h
    refine ⟨_, (pss_cons (ps_set (i := 2) sc_lengthafter.nd rfl (Or.inl rfl) (pv 0))
 (pss_cons (ps_for PassesOwn.never rfl (pi_list (pv 1)) (pg_name (i := 3) sc_lengthafter.nd rfl (Or.inl rfl))
 (pss_one (ps_set (i := 2) sc_lengthafter.nd rfl (Or.inl rfl) (pe_callD D_lengthafterone (hr.mono (by omega)) (by rfl) (pa_cons (pv 2) (pa_cons (pv 3) pa_nil))))))
 (pss_one (ps_ret (pv 2))))), ?_⟩
    refine ⟨_, rfl, _, rfl, a, rfl, ⟨_, hS⟩, for_list (K := K) (a := a) (xs := ks.map V.int) (fun i σ H' => Same H H' ∧ ∃ y, σ = [some (.int n), some (.ref a), some (.int (sq n (ks.take i))), y]) ⟨Same.refl H, none, rfl⟩ (fun i σ H' _ h => h.1.seq hS) ?_ ?_⟩
    · rintro i x σ H' hi ⟨sm, y, rfl⟩
      obtain ⟨k, e, rfl⟩ := map_at hi
      have hm := hk k (List.mem_of_getElem? e)
      refine ⟨_, rfl, _, rfl, _, k, rfl, hm.1, hm.2, fun H'' s2 => ⟨sm.trans s2, some (.int k), ?_⟩⟩
      rw [List.take_add_one, e]
      show _ = [_, _, some (V.int (sq n (ks.take i ++ [k]))), _]
      rw [sq_concat]
      rfl
    · rintro σ H' ⟨sm, y, rfl⟩
      rw [List.length_map, List.take_length]
      exact ⟨_, rfl, q _ sm⟩
end
section
variable {P : Program} {w : World} {K : PySem.W.Frag} {mg : Str → Option Value} {base : Heap}
def spSqueezed (K : PySem.W.Frag) : Sp := fun vs H Q _ => ∃ (n : Int) (a : Addr) (ks : List Int), vs = [.int n, .ref a] ∧ SqL K H a (ks.map V.int) ∧ 0 ≤ n ∧ Rpl ks ∧ ∀ H', Same H H' → Q (.int (sq n ks)) H'
theorem ok_squeezed {f : Addr} {fd : FuncData} (F : Fun K "squeezed" "squeezed" s_squeezed f fd) (D_checknumber : Df P w K mg base 1 "check_number" ["number", "least"] spCheckNumber) (D_checklist : Df P w K mg base 1 "check_list" ["replacements"] (spCheckList K))
    (D_lengthafter : Df P w K mg base 2 "length_after" ["length", "replacements"] (spSqzS K)) : FnOk P w K mg base CX0 3 f fd ["length", "replacements"] (spSqueezed K) := by
  refine F.ok sc_squeezed (fun vs H Q E h => ?_) (fun cdv A outer s H vs Q E hr h => ?_)
  · obtain ⟨n, a, ks, rfl, _⟩ := h
    rfl
  · obtain ⟨n, a, ks, rfl, hS, h0, hk, q⟩ := h
    refine ⟨_, (pss_cons (ps_expr (pe_callD D_checknumber (hr.mono (by omega)) (by rfl) (pa_cons (pv 0) (pa_cons pe_int pa_nil))))
 (pss_cons (ps_expr (pe_callD D_checklist (hr.mono (by omega)) (by rfl) (pa_cons (pv 1) pa_nil)))
 (pss_one (ps_ret (pe_callD D_lengthafter (hr.mono (by omega)) (by rfl) (pa_cons (pv 0) (pa_cons (pv 1) pa_nil))))))), ?_⟩
    refine ⟨_, rfl, n, 0, rfl, h0, ?_⟩
    refine ⟨_, rfl, a, ks, rfl, hS, hk.two, fun H1 s1 => ?_⟩
    exact ⟨_, rfl, _, rfl, n, a, ks, rfl, s1.seq hS, hk, fun H2 s2 => q _ (s1.trans s2)⟩
end
end Sq
set_option Elab.async false
set_option linter.all false
set_option maxRecDepth 100000
set_option maxHeartbeats 4000000
set_option exponentiation.threshold 2000
namespace Sq
open PySem PySem.Spec PyProof.Rows L2
def stg (L : Int) (ks : List Int) (n : Nat) : List Int := (List.range n).map fun i => sq L (ks.take i)
theorem stg_succ (L : Int) (ks : List Int) (n : Nat) : stg L ks (n + 1) = stg L ks n ++ [sq L (ks.take n)] := by
  unfold stg
  rw [List.range_succ, List.map_append]
  rfl
theorem stg_len (L : Int) (ks : List Int) (n : Nat) : (stg L ks n).length = n := by
  unfold stg
  rw [List.length_map, List.length_range]
section
variable {P : Program} {w : World} {K : PySem.W.Frag} {mg : Str → Option Value} {base : Heap}
def spStages (K : PySem.W.Frag) : SpG := fun vs H Q _ => ∃ (L : Int) (a : Addr) (ks : List Int), vs = [.int L, .ref a] ∧ SqL K H a (ks.map V.int) ∧ 0 ≤ L ∧ Rpl ks ∧ ks.length ≤ 1000 ∧ ∀ H', Same H H' → Q ((stg L ks (ks.length + 1)).map V.int) H'
theorem ok_stages {f : Addr} {fd : FuncData} (F : Fun K "stages" "stages" s_stages f fd) (D_checknumber : Df P w K mg base 1 "check_number" ["number", "least"] spCheckNumber) (D_checklist : Df P w K mg base 1 "check_list" ["replacements"] (spCheckList K))
    (D_lengthafterone : Df P w K mg base 1 "length_after_one" ["length", "number"] spOnceS) : GFn P w K mg base 3 f fd ["length", "replacements"] (spStages K) := by
  obtain ⟨oc, od, kV, doc, pm, an, cdv, ct, osl, rfl, lk, hcd⟩ := F.ex
  refine gfn_of (k := 2) lk hcd sc_stages (fun vs H Q E h => ?_) (fun A outer s H vs Q E pn hr h => ?_)
  · obtain ⟨L, a, ks, rfl, _⟩ := h
    rfl
  · obtain ⟨L, a, ks, rfl, hS, h0, hk, few, q⟩ := h
    refine ⟨_, (gss_cons (gs_ps (ps_expr (pe_callD D_checknumber (hr.mono (by omega)) (by rfl) (pa_cons (pv 0) (pa_cons pe_int pa_nil)))))
 (gss_cons (gs_ps (ps_expr (pe_callD D_checklist (hr.mono (by omega)) (by rfl) (pa_cons (pv 1) pa_nil))))
 (gss_cons (gs_yield (pv 0))
 (gss_cons (gs_ps (ps_set (i := 2) sc_stages.nd rfl (Or.inl rfl) (pv 0)))
 (gss_cons (gs_for owns_gcx rfl (pi_list (pv 1)) (pg_name (i := 3) sc_stages.nd rfl (Or.inl rfl))
 (gss_cons (gs_ps (ps_set (i := 2) sc_stages.nd rfl (Or.inl rfl) (pe_callD D_lengthafterone (hr.mono (by omega)) (by rfl) (pa_cons (pv 2) (pa_cons (pv 3) pa_nil)))))
 (gss_cons (gs_yield (pv 2))
 gss_nil)))
 gss_nil))))), ?_⟩
    have lim : sizeLine = 16777216 := sizeLine_eq
    refine ⟨_, rfl, L, 0, rfl, h0, ?_⟩
    refine ⟨_, rfl, a, ks, rfl, hS, hk.two, fun H1 s1 => ?_⟩
    refine ⟨by show 0 < sizeLine; omega, _, rfl, _, rfl, _, rfl, a, rfl, ⟨_, s1.seq hS⟩, gfor_it (walk_list (K := K) (a := a) (xs := ks.map V.int)) (fun i ys σ H2 => ∃ y, σ = [some (.int L), some (.ref a), some (.int (sq L (ks.take i))), y] ∧ Same H H2 ∧ ys = (stg L ks (i + 1)).map V.int)
      ⟨none, rfl, s1, rfl⟩ (fun i ys σ H2 _ h => by obtain ⟨y, _, s2, _⟩ := h; exact s2.seq hS) ?_ ?_⟩
    · rintro i x ys σ H2 H3 hi ⟨y, rfl, s2, rfl⟩ ⟨rfl, e⟩
      rw [List.length_map] at hi
      obtain ⟨k, hk', rfl⟩ := map_at e
      have hm := hk k (List.mem_of_getElem? hk')
      refine ⟨_, rfl, _, rfl, _, k, rfl, hm.1, hm.2, fun H4 s4 => ⟨?_, _, rfl, some (.int k), ?_, s2.trans s4, ?_⟩⟩
      · rw [List.length_map, stg_len]
        omega
      · rw [List.take_add_one, hk']
        show _ = [_, _, some (V.int (sq L (ks.take i ++ [k]))), _]
        rw [sq_concat]
        rfl
      · rw [stg_succ L ks (i + 1), List.map_append, List.take_add_one, hk']
        show _ = _ ++ [V.int (sq L (ks.take i ++ [k]))]
        rw [sq_concat]
    · rintro ys σ H2 ⟨y, rfl, s2, rfl⟩
      rw [List.length_map]
      exact q _ s2
end
end Sq
set_option Elab.async false
set_option linter.all false
set_option maxRecDepth 100000
set_option maxHeartbeats 4000000
set_option exponentiation.threshold 2000
namespace Sq
open PySem PySem.Spec PyProof.Rows L2
section
variable {P : Program} {w : World} {K : PySem.W.Frag} {mg : Str → Option Value} {base : Heap}
theorem ok_checknumberQ {f : Addr} {fd : FuncData} (F : Fun K "check_number" "check_number" s_checknumber f fd) : FnQ P w K mg base 1 f fd ["number", "least"] spCheckNumber := by
  refine fnq_of F sc_checknumber (fun vs H Q E h => ?_) (fun cdv A outer s H vs Q hr h => ?_)
  · obtain ⟨n, l, rfl, _⟩ := h
    rfl
  · obtain ⟨n, l, rfl, hl, q⟩ := h
    refine ⟨_, gsts_one (gst_if (gt_lt (ge_var (i := 0) rfl (Or.inl rfl)) (ge_var (i := 1) rfl (Or.inl rfl)) rfl) (gsts_one gst_never) gsts_nil), ?_⟩
    refine ⟨_, rfl, _, rfl, _, _, rfl, rfl, ite2 (fun c => ?_) (fun c => q)⟩
    have c' : n < l := of_decide_eq_true c
    omega
theorem ok_checklistQ {f : Addr} {fd : FuncData} (F : Fun K "check_list" "check_list" s_checklist f fd) (B : Bi mg) : FnQ P w K mg base 1 f fd ["replacements"] (spCheckList K) := by
  refine fnq_of F sc_checklist (fun vs H Q E h => ?_) (fun cdv A outer s H vs Q hr h => ?_)
  · obtain ⟨a, ks, rfl, _⟩ := h
    rfl
  · obtain ⟨a, ks, rfl, hS, hk, q⟩ := h
    refine ⟨_, gsts_one (gst_forEn (K0 := K) rfl rfl PassesOwn.never (by rfl) B.n_enumerate (ge_var (i := 0) rfl (Or.inl rfl)) (gg_tup rfl (ggs_cons (gg_name (i := 1) sc_checklist.nd rfl rfl) (ggs_cons (gg_name (i := 2) sc_checklist.nd rfl rfl) ggs_nil)))
      (gsts_one (gst_if (gt_lt (ge_var (i := 2) rfl (Or.inl rfl)) ge_int rfl) (gsts_one gst_never) gsts_nil))), ?_⟩
    refine ⟨_, rfl, a, ks.map V.int, rfl, hS, fun i σ H' => Same H H' ∧ ∃ y z, σ = [some (.ref a), y, z], ⟨Same.refl H, none, none, rfl⟩, fun i σ H' h => h.1.seq hS, ?_, ?_⟩
    · rintro i v σ H' T hi ⟨sm, y, z, rfl⟩ nT
      obtain ⟨k, hk', rfl⟩ := map_at hi
      refine ⟨T, _, rfl, .inl (.inl upd_same), rfl, _, _, rfl, _, _, rfl, rfl, ?_⟩
      refine ⟨_, rfl, _, _, rfl, rfl, ite2 (fun c => ?_) (fun c => ?_)⟩
      · have := hk k (List.mem_of_getElem? hk')
        have c' : k < 2 := of_decide_eq_true c
        omega
      · exact ⟨sm.trans (same_new nT), _, _, rfl⟩
    · rintro σ H' ⟨sm, y, z, rfl⟩
      exact q H' sm
theorem ok_lengthafteroneQ {f : Addr} {fd : FuncData} (F : Fun K "length_after_one" "length_after_one" s_lengthafterone f fd) (B : Bi mg) : FnQ P w K mg base 1 f fd ["length", "number"] spOnceS := by
  refine fnq_of F sc_lengthafterone (fun vs H Q E h => ?_) (fun cdv A outer s H vs Q hr h => ?_)
  · obtain ⟨n, k, rfl, _⟩ := h
    rfl
  · obtain ⟨n, k, rfl, k1, k2, q⟩ := h
    refine ⟨_, gsts_cons (gst_asg (ge_callB (id := "divmod") (r := rDivmod) cg_divmod (by rfl) B.n_divmod (by decide +kernel) (ga_cons (ge_var (i := 0) rfl (Or.inl rfl)) (ga_cons (ge_var (i := 1) rfl (Or.inl rfl)) ga_nil))) (gg_tup rfl (ggs_cons (gg_name (i := 2) sc_lengthafterone.nd rfl rfl) (ggs_cons (gg_name (i := 3) sc_lengthafterone.nd rfl rfl) ggs_nil))))
      (gsts_one (gst_ret (ge_add (ge_var (i := 2) rfl (Or.inl rfl)) (ge_var (i := 3) rfl (Or.inl rfl))))), ?_⟩
    refine ⟨_, rfl, _, rfl, n, k, rfl, ⟨by omega, PyProof.noPylong_small (by omega)⟩, fun p hp => ?_⟩
    exact ⟨p, _, rfl, .inl (.inl upd_same), rfl, _, _, rfl, _, _, rfl, rfl, _, rfl, _, rfl, _, _, rfl, rfl, q _ (same_new hp)⟩
end
end Sq
set_option Elab.async false
set_option linter.all false
set_option maxRecDepth 100000
set_option maxHeartbeats 4000000
set_option exponentiation.threshold 2000
namespace Sq
open PySem PySem.Spec PyProof.Rows L2
section
variable {P : Program} {w : World} {K : PySem.W.Frag} {mg : Str → Option Value} {base : Heap}
def spStagesX : SpX := fun vs al ns tot val => ∃ L : Int, vs = [.int L, .ref al] ∧ 0 ≤ L ∧ Rpl ns ∧ tot = ns.length + 1 ∧ val = fun i => sq L (ns.take i)
theorem ok_stagesX {f : Addr} {fd : FuncData} (F : Fun K "stages" "stages" s_stages f fd) (D_checknumber : Dq P w K mg base 1 "check_number" ["number", "least"] spCheckNumber) (D_checklist : Dq P w K mg base 1 "check_list" ["replacements"] (spCheckList K))
    (D_lengthafterone : Dq P w K mg base 1 "length_after_one" ["length", "number"] spOnceS) : GFnX P w K mg base 3 f fd ["length", "replacements"] spStagesX := by
  obtain ⟨oc, od, kV, doc, pm, an, cdv, ct, osl, rfl, lk, hcd⟩ := F.ex
  refine xfn_of (k := 2) lk hcd sc_stages (fun n x c z => by cases z) (fun vs al ns tot val h => ?_) (fun A outer n0 a go g al ns tot val vs ok hr h => ?_)
  · obtain ⟨L, rfl, _⟩ := h
    rfl
  · obtain ⟨L, rfl, h0, hk, rfl, rfl⟩ := h
    refine ⟨_, xs_cons (x_gst fun s₀ => gst_expr (ge_callU D_checknumber (hr.mono (by omega)) (by rfl) (ga_cons (ge_var (i := 0) rfl (Or.inl rfl)) (ga_cons ge_int ga_nil))))
      (xs_cons (x_gst fun s₀ => gst_expr (ge_callU D_checklist (hr.mono (by omega)) (by rfl) (ga_cons (ge_var (i := 1) rfl (Or.inl rfl)) ga_nil)))
      (xs_cons (x_yield ok (fun s₀ => ge_var (i := 0) rfl (Or.inl rfl)) rfl)
      (xs_cons (x_gst fun s₀ => gst_asg (ge_var (i := 0) rfl (Or.inl rfl)) (gg_name (i := 2) sc_stages.nd rfl rfl))
      (xs_cons (x_for ok hr.hd (fun s₀ => ge_var (i := 1) rfl (Or.inl rfl)) (fun s₀ => gg_name (i := 3) sc_stages.nd rfl rfl)
        (xs_cons (x_gst fun s₀ => gst_asg (ge_callU D_lengthafterone (hr.mono (by omega)) (by rfl) (ga_cons (ge_var (i := 2) rfl (Or.inl rfl)) (ga_cons (ge_var (i := 3) rfl (Or.inl rfl)) ga_nil))) (gg_name (i := 2) sc_stages.nd rfl rfl))
        (xs_cons (x_yield ok (fun s₀ => ge_var (i := 2) rfl (Or.inl rfl)) rfl) xs_nil))) xs_nil)))), fun Hb hal => ?_⟩
    refine ⟨_, rfl, L, 0, rfl, h0, ?_⟩
    refine ⟨_, rfl, al, ns, rfl, SqL.of hal, hk.two, fun H1 s1 => ?_⟩
    refine ⟨Nat.succ_pos _, _, rfl, rfl, s1, fun Hb1 hal1 => ?_⟩
    refine ⟨_, rfl, _, rfl, rfl, fun j i Hb σ H => i = j + 1 ∧ Same Hb H ∧ H al = some (.lst (ns.map V.int)) ∧ ∃ y, σ = [some (.int L), some (.ref al), some (.int (sq L (ns.take j))), y], ⟨rfl, Same.refl _, hal1, none, rfl⟩, fun j i Hb σ H p => p.2.2.1, ?_, ?_⟩
    · rintro j k i Hb σ H e ⟨rfl, sm, gal, y, rfl⟩
      have hm := hk k (List.mem_of_getElem? e)
      have lt : j < ns.length := (List.getElem?_eq_some_iff.mp e).1
      have et : sq L (ns.take (j + 1)) = once (sq L (ns.take j)) k := by
        rw [List.take_add_one, e]
        show sq L (ns.take j ++ [k]) = _
        rw [sq_concat]
      refine ⟨_, rfl, _, rfl, _, k, rfl, hm.1, hm.2, fun H4 s4 => ?_⟩
      refine ⟨by show j + 1 < ns.length + 1; omega, _, rfl, congrArg V.int et.symm, sm.trans s4, fun Hb2 hal2 => ⟨rfl, Same.refl _, hal2, some (.int k), ?_⟩⟩
      rw [et]
      rfl
    · rintro i Hb σ H ⟨rfl, sm, gal, y, rfl⟩
      exact ⟨rfl, sm⟩
end
end Sq
set_option Elab.async false
set_option linter.all false
set_option maxRecDepth 100000
set_option maxHeartbeats 4000000
set_option exponentiation.threshold 2000
namespace Sq
open PySem PySem.Spec PyProof.Rows L2
theorem sq_nn {ks : List Int} (h : ∀ k ∈ ks, 2 ≤ k) : ∀ {n : Int}, 0 ≤ n → 0 ≤ sq n ks := by
  induction ks with
  | nil => exact fun h => h
  | cons k r ih => exact fun h0 => ih (fun x hx => h x (List.mem_cons_of_mem _ hx)) (once_nonneg (h k List.mem_cons_self) h0)
theorem sq_app (n : Int) (ks ls : List Int) : sq n (ks ++ ls) = sq (sq n ks) ls := List.foldl_append
section
variable {P : Program} {w : World} {K : PySem.W.Frag} {mg : Str → Option Value} {base : Heap}
def spOnce : Sp := fun vs H Q _ => ∃ (n k : Int), vs = [.int n, .int k] ∧ 2 ≤ k ∧ k < 1073741824 ∧ Q (.int (once n k)) H
theorem ok_lawonce {f : Addr} {fd : FuncData} (F : Fun K "_law_once" "_law_once" s_lawonce f fd) : FnOk P w K mg base CX0 1 f fd ["many", "number"] spOnce := by
  refine F.ok sc_lawonce (fun vs H Q E h => ?_) (fun cdv A outer s H vs Q E hr h => ?_)
  · obtain ⟨n, k, rfl, _⟩ := h
    rfl
  · obtain ⟨n, k, rfl, k1, k2, q⟩ := h
    refine ⟨_, (pss_cons (ps_set (i := 2) sc_lawonce.nd rfl (Or.inl rfl) (pe_op op_fdiv (pe_op op_sub (pv 0) (pe_op op_mod (pv 0) (pv 1))) (pv 1)))
 (pss_one (ps_ret (pe_op op_add (pe_op op_sub (pv 0) (pe_op op_mul (pv 2) (pv 1))) (pv 2))))), ?_⟩
    have e : n - (n - n % k) / k * k + (n - n % k) / k = once n k := by
      have d := Int.mul_ediv_add_emod n k
      have e1 : n - n % k = k * (n / k) := by omega
      rw [e1, Int.mul_ediv_cancel_left _ (by omega : k ≠ 0)]
      have e2 : n / k * k = k * (n / k) := Int.mul_comm _ _
      unfold once
      omega
    refine ⟨_, rfl, _, rfl, _, rfl, n, k, rfl, rfl, (show 0 < k by omega), _, _, rfl, rfl, _, rfl, _, k, rfl, rfl, ⟨by omega, k2⟩, ?_⟩
    refine ⟨_, rfl, _, rfl, _, rfl, _, k, rfl, rfl, .inr ⟨by omega, by omega⟩, _, _, rfl, rfl, _, rfl, _, _, rfl, rfl, ?_⟩
    show Q (.int (n - (n - n % k) / k * k + (n - n % k) / k)) H
    rw [e]
    exact q
def spAfter (K : PySem.W.Frag) : Sp := fun vs H Q _ => ∃ (n : Int) (a : Addr) (ks : List Int), vs = [.int n, .ref a] ∧ SqL K H a (ks.map V.int) ∧ Rpl ks ∧ Q (.int (sq n ks)) H
theorem ok_lawafter {f : Addr} {fd : FuncData} (F : Fun K "_law_after" "_law_after" s_lawafter f fd) (D_lawonce : Df P w K mg base 1 "_law_once" ["many", "number"] spOnce) : FnOk P w K mg base CX0 2 f fd ["many", "some"] (spAfter K) := by
  refine F.ok sc_lawafter (fun vs H Q E h => ?_) (fun cdv A outer s H vs Q E hr h => ?_)
  · obtain ⟨n, a, ks, rfl, _⟩ := h
    rfl
  · obtain ⟨n, a, ks, rfl, hS, hk, q⟩ := h
    refine ⟨_, (pss_cons (ps_for PassesOwn.never rfl (pi_list (pv 1)) (pg_name (i := 2) sc_lawafter.nd rfl (Or.inl rfl))
 (pss_one (ps_set (i := 0) sc_lawafter.nd rfl (Or.inl rfl) (pe_callD D_lawonce (hr.mono (by omega)) (by rfl) (pa_cons (pv 0) (pa_cons (pv 2) pa_nil))))))
 (pss_one (ps_ret (pv 0)))), ?_⟩
    refine ⟨_, rfl, a, rfl, ⟨_, hS⟩, for_list (K := K) (a := a) (xs := ks.map V.int) (fun i σ H' => H' = H ∧ ∃ y, σ = [some (.int (sq n (ks.take i))), some (.ref a), y]) ⟨rfl, none, rfl⟩ (fun i σ H' _ h => by rw [h.1]; exact hS) ?_ ?_⟩
    · rintro i x σ H' hi ⟨rfl, y, rfl⟩
      obtain ⟨k, e, rfl⟩ := map_at hi
      have hm := hk k (List.mem_of_getElem? e)
      refine ⟨_, rfl, _, rfl, _, k, rfl, hm.1, hm.2, rfl, some (.int k), ?_⟩
      rw [List.take_add_one, e]
      show _ = [some (V.int (sq n (ks.take i ++ [k]))), _, _]
      rw [sq_concat]
      rfl
    · rintro σ H' ⟨rfl, y, rfl⟩
      rw [List.length_map, List.take_length]
      exact ⟨_, rfl, q⟩
def spMany (K : PySem.W.Frag) : Sp := fun vs H Q _ => ∃ (l b : Addr) (seed cnt : Int) (ks : List Int), vs = [.ref l, .ref b] ∧ Rng H l seed cnt ∧ cnt < 900000 ∧ b ≠ l ∧ H b = some (.lst (ks.map V.int)) ∧ ks.length ≤ 12 ∧ (∀ k ∈ ks, 2 ≤ k ∧ k ≤ 1000000) ∧
  ∀ n cnt' H', 0 ≤ n → n < 10 ^ 30 → Rng H' l seed cnt' → cnt' ≤ cnt + 6 → Keep1 H H' l → Q (.int n) H'
theorem ok_lawmany {f : Addr} {fd : FuncData} (F : Fun K "_law_many" "_law_many" s_lawmany f fd) (B : Bi mg) (D_lawdraw : Df P w K mg base 1 "_law_draw" ["rng", "limit"] spDraw) : FnOk P w K mg base CX0 2 f fd ["rng", "some"] (spMany K) := by
  refine F.ok sc_lawmany (fun vs H Q E h => ?_) (fun cdv A outer s H vs Q E hr h => ?_)
  · obtain ⟨l, b, seed, cnt, ks, rfl, _⟩ := h
    rfl
  · obtain ⟨l, b, seed, cnt, ks, rfl, S, hc, nbl, hb, hl, hk, q⟩ := h
    refine ⟨_, (pss_cons (ps_set (i := 2) sc_lawmany.nd rfl (Or.inl rfl) pe_int)
 (pss_cons (ps_for PassesOwn.never rfl (pi_list (pe_slice sl_list (pv 1) po_none (po_some (pe_callD D_lawdraw (hr.mono (by omega)) (by rfl) (pa_cons (pv 0) (pa_cons (pe_op op_add (pe_callB (id := "len") (r := rLenK K) call_lenK (by rfl) B.n_len (by decide +kernel) (pa_cons (pv 1) pa_nil)) pe_int) pa_nil)))))) (pg_name (i := 3) sc_lawmany.nd rfl (Or.inl rfl))
 (pss_one (ps_set (i := 2) sc_lawmany.nd rfl (Or.inl rfl) (pe_op op_mul (pv 2) (pv 3)))))
 (pss_cons (ps_set (i := 4) sc_lawmany.nd rfl (Or.inl rfl) (pe_op op_sub (pe_op op_add (pe_op op_mul (pv 2) (pe_op op_add pe_int (pe_callD D_lawdraw (hr.mono (by omega)) (by rfl) (pa_cons (pv 0) (pa_cons pe_int pa_nil))))) (pe_callD D_lawdraw (hr.mono (by omega)) (by rfl) (pa_cons (pv 0) (pa_cons pe_int pa_nil)))) pe_int))
 (pss_cons (ps_set (i := 5) sc_lawmany.nd rfl (Or.inl rfl) (pe_ix (r := rIxL K) ix_list (pe_lst (pa_cons (pe_callD D_lawdraw (hr.mono (by omega)) (by rfl) (pa_cons (pv 0) (pa_cons pe_int pa_nil))) (pa_cons (pv 4) (pa_cons (pv 4) (pa_cons (pe_callD D_lawdraw (hr.mono (by omega)) (by rfl) (pa_cons (pv 0) (pa_cons (pe_op op_pow pe_int pe_int) pa_nil))) pa_nil))))) (pe_callD D_lawdraw (hr.mono (by omega)) (by rfl) (pa_cons (pv 0) (pa_cons pe_int pa_nil))) (fun _ _ => rfl)))
 (pss_one (ps_ret (pe_callB (id := "min") (call_min2 rfl) (by rfl) B.n_min (by decide +kernel) (pa_cons (pe_op op_sub (pe_op op_pow pe_int pe_int) pe_int) (pa_cons (pe_callB (id := "max") (call_max2 rfl) (by rfl) B.n_max (by decide +kernel) (pa_cons pe_int (pa_cons (pv 5) pa_nil))) pa_nil))))))))), ?_⟩
    have lim : sizeLine = 16777216 := sizeLine_eq
    refine ⟨_, rfl, noPart ⟨_, rfl, _, rfl, b, _, rfl, .inl (SqL.of hb), _, 1, rfl, rfl, l, seed, cnt, _, rfl, S, by omega, by rw [List.length_map]; omega, lim10 (by rw [List.length_map]; omega), fun zc c1 H1 z0 z1 S1 hc1 k1 => ?_⟩⟩
    obtain ⟨cut, rfl⟩ : ∃ cut : Nat, zc = (cut : Int) := ⟨zc.toNat, by omega⟩
    have cl : cut ≤ (ks.map V.int).length := by omega
    refine ⟨(cut : Int), rfl, b, _, rfl, SqL.of (k1 _ _ hb nbl), fun p hp => ?_⟩
    rw [cut_take _ cut cl, ← List.map_take]
    obtain ⟨ls, els⟩ : ∃ ls, ls = ks.take cut := ⟨_, rfl⟩
    have hls : ∀ k ∈ ls, 2 ≤ k ∧ k ≤ 1000000 := fun k h => hk k (by rw [els] at h; exact List.mem_of_mem_take h)
    rw [← els]
    clear els
    have gp1 : (upd H1 p (.lst (ls.map V.int))) p = some (.lst (ls.map V.int)) := upd_same
    have npl := S1.ne hp
    have S2 : Rng (upd H1 p (.lst (ls.map V.int))) l seed c1 := S1.upd npl
    have k2 : Keep1 H (upd H1 p (.lst (ls.map V.int))) l := k1.trans (Keep1.of (same_new hp))
    generalize upd H1 p (.lst (ls.map V.int)) = H2 at gp1 S2 k2 ⊢
    refine ⟨p, rfl, ⟨_, SqL.of gp1⟩, for_list (K := K) (a := p) (xs := ls.map V.int) (fun i σ H' => H' = H2 ∧ ∃ t y, σ = [some (.ref l), some (.ref b), some (.int t), y, none, none]) ⟨rfl, 1, none, rfl⟩ (fun i σ H' _ h => by rw [h.1]; exact SqL.of gp1) ?_ ?_⟩
    · rintro i x σ H' hi ⟨rfl, t, y, rfl⟩
      obtain ⟨k, e, rfl⟩ := map_at hi
      have hm := hls k (List.mem_of_getElem? e)
      exact ⟨_, rfl, _, rfl, t, k, rfl, rfl, .inr ⟨by omega, by omega⟩, rfl, _, _, rfl⟩
    · rintro σ H' ⟨rfl, t, y, rfl⟩
      refine ⟨_, rfl, _, rfl, l, seed, c1, 3, rfl, S2, by omega, by decide, by decide, fun x1 c2 H3 x10 x11 S3 hc2 k3 => ?_⟩
      refine ⟨1, x1, rfl, rfl, t, 1 + x1, rfl, rfl, .inr ⟨by omega, by omega⟩, ?_⟩
      refine ⟨_, rfl, l, seed, c2, 5, rfl, S3, by omega, by decide, by decide, fun x2 c3 H4 x20 x21 S4 hc3 k4 => ?_⟩
      refine ⟨_, x2, rfl, rfl, _, 2, rfl, rfl, ?_⟩
      refine ⟨_, rfl, l, seed, c3, 401, rfl, S4, by omega, by decide, by decide, fun x3 c4 H5 x30 x31 S5 hc4 k5 => ?_⟩
      refine ⟨_, rfl, _, rfl, _, rfl, 10, 30, rfl, rfl, ⟨by decide, by decide, by decide⟩, l, seed, c4, _, rfl, S5, by omega, by decide, by decide, fun x4 c5 H6 x40 x41 S6 hc5 k6 => ?_⟩
      refine ⟨(by show 4 ≤ sizeLine; omega), fun p2 hp2 => ?_⟩
      have np2 := S6.ne hp2
      refine ⟨_, rfl, l, seed, c5, 4, rfl, S6.upd np2, by omega, by decide, by decide, fun x5 c6 H7 x50 x51 S7 hc6 k7 => ?_⟩
      have gp2 := k7 _ _ (upd_same (H := H6) (a := p2)) np2
      obtain ⟨kk, _, ea⟩ := nth_of (xs := [x3, t * (1 + x1) + x2 - 2, t * (1 + x1) + x2 - 2, x4]) x50 (by simpa using x51)
      refine ⟨p2, _, x5, .int kk, rfl, rfl, SqL.of gp2, ea, ?_⟩
      refine ⟨10, 30, rfl, rfl, ⟨by decide, by decide, by decide⟩, _, 1, rfl, rfl, _, rfl, 0, kk, rfl, _, _, rfl, ?_⟩
      have e30 : (10 : Int) ^ (30 : Int).toNat - 1 = 10 ^ 30 - 1 := by decide
      have kk7 : Keep1 H H7 l := (((((k2.trans k3).trans k4).trans k5).trans k6).trans (Keep1.of (same_new hp2))).trans k7
      rw [e30]
      refine q _ c6 H7 ?_ ?_ S7 (by omega) kk7
      · split <;> split <;> omega
      · split <;> split <;> omega
end
end Sq
set_option Elab.async false
set_option linter.all false
set_option maxHeartbeats 1000000
/-! The least run with more, from the last replacement to the first; reaches of parts; how great they grow. -/
namespace Sq
open L2
theorem cut_drop (xs : List V) (n : Nat) (h : n ≤ xs.length) : cutV xs (some (n : Int)) none = xs.drop n := by
  unfold cutV
  rw [HT.sIx_nat, HT.sIx_none, Nat.min_eq_left h]
  exact List.take_of_length_le (by rw [List.length_drop]; exact Nat.le_refl _)
end Sq
set_option Elab.async false
set_option linter.all false
set_option maxRecDepth 100000
set_option maxHeartbeats 4000000
set_option exponentiation.threshold 2000
namespace Sq
open PySem PySem.Spec PyProof.Rows L2
theorem kb_squeezed {K : PySem.W.Frag} {f : Addr} {fd : FuncData} (F : Fun K "squeezed" "squeezed" s_squeezed f fd) : KBn K fd ["length", "replacements"] 0 ["replacements", "length"] (fun _ zs => zs.reverse) (fun _ zs => zs.reverse) :=
  kbn_mk F _ _ _ (fun _ r => r.reverse) fun _ _ _ _ _ _ ws hl => match ws, hl with | [_, _], _ => rfl
theorem kb_stages {K : PySem.W.Frag} {f : Addr} {fd : FuncData} (F : Fun K "stages" "stages" s_stages f fd) : KBn K fd ["length", "replacements"] 0 ["replacements", "length"] (fun _ zs => zs.reverse) (fun _ zs => zs.reverse) :=
  kbn_mk F _ _ _ (fun _ r => r.reverse) fun _ _ _ _ _ _ ws hl => match ws, hl with | [_, _], _ => rfl
theorem once_le_self {k n : Int} (hk : 2 ≤ k) (h0 : 0 ≤ n) : once n k ≤ n := by
  unfold once
  have a := Int.mul_ediv_add_emod n k
  have b : 0 ≤ n / k := Int.ediv_nonneg h0 (by omega)
  have d : n / k ≤ k * (n / k) := by
    have := Int.mul_le_mul_of_nonneg_right (show (1 : Int) ≤ k by omega) b
    omega
  omega
theorem sq_le_self : ∀ (ks : List Int) (n : Int), (∀ k ∈ ks, 2 ≤ k) → 0 ≤ n → sq n ks ≤ n
  | [], n, _, _ => Int.le_refl n
  | k :: r, n, h, h0 => by
    have h2 := h k List.mem_cons_self
    have i := sq_le_self r (once n k) (fun x hx => h x (List.mem_cons_of_mem _ hx)) (once_nonneg h2 h0)
    have j := once_le_self h2 h0
    show sq (once n k) r ≤ n
    omega
theorem eqv_two (a b : List Int) : PyData.eqv (.list [.list (a.map PyData.int), .list (b.map PyData.int)]) (.list [.list (a.map PyData.int), .list (b.map PyData.int)]) = true := by
  show (PyData.eqv (.list (a.map PyData.int)) (.list (a.map PyData.int)) && (PyData.eqv (.list (b.map PyData.int)) (.list (b.map PyData.int)) && true)) = true
  rw [eqv_ints, eqv_ints, decide_eq_true rfl, decide_eq_true rfl]
  rfl
section
variable {P : Program} {w : World} {K : PySem.W.Frag} {mg : Str → Option Value} {base : Heap}
def spRight : Sp := fun vs H Q _ => ∃ (n : Int) (a : Addr) (ks : List Int), vs = [.int n, .ref a] ∧ 0 ≤ n ∧ n < 10 ^ 30 ∧ H a = some (.lst (ks.map V.int)) ∧ ks.length ≤ 12 ∧ (∀ k ∈ ks, 2 ≤ k ∧ k ≤ 1000000) ∧ ∀ H', Same H H' → Q (.bl true) H'
theorem ok_lawright {f : Addr} {fd : FuncData} (F : Fun K "_law_right" "_law_right" s_lawright f fd) (B : Bi mg) (D_lawonce : Df P w K mg base 1 "_law_once" ["many", "number"] spOnce) (D_squeezed : Df P w K mg base 3 "squeezed" ["length", "replacements"] (spSqueezed K))
    (K_squeezed : Dk P w K mg base 3 "squeezed" ["length", "replacements"] ["replacements", "length"] (fun _ zs => zs.reverse) (spSqueezed K))
    (G_stages : Dg P w K mg base 3 "stages" ["length", "replacements"] (spStages K)) {gk : List Value → List Value → List Value} (GK_stages : Dgk P w K mg base 3 "stages" ["length", "replacements"] ["replacements", "length"] gk (fun _ zs => zs.reverse) (spStages K)) : FnG P w K mg base 7 f fd ["many", "some"] spRight := by
  refine okG F sc_lawright (fun vs H Q E h => ?_) (fun cdv A outer s H vs Q E hr quiet h => ?_)
  · obtain ⟨n, a, ks, rfl, _⟩ := h
    rfl
  · obtain ⟨n, a, ks, rfl, n0, n1, ga, lk, hk, q⟩ := h
    refine ⟨_, (pss_cons (ps_par (i := 2) (j := 3) (by rfl) sc_lawright.nd rfl rfl (by decide) rfl rfl (pa_cons (pe_callB (id := "repr") (call_reprV quiet hr.units) (by rfl) B.n_repr (by decide +kernel) (pa_cons (pv 1) pa_nil)) (pa_cons (pe_lst (pa_cons (pv 0) pa_nil)) pa_nil)) (by rfl))
 (pss_cons (ps_for PassesOwn.never rfl (pi_list (pv 1)) (pg_name (i := 4) sc_lawright.nd rfl (Or.inl rfl))
 (pss_one (ps_expr (pe_bm PySem.F.plainAttrs_list PySem.F.slot_list_append PySem.F.type_list_append mt_append (pv 3) (pa_cons (pe_callD D_lawonce (hr.mono (by omega)) (by rfl) (pa_cons (pe_ix (r := rIxL K) ix_list (pv 3) (pe_un un_neg pe_int) (fun _ _ => rfl)) (pa_cons (pv 4) pa_nil))) pa_nil)))))
 (pss_cons (ps_if (pt_cmpR (op_neD hr.units) (pe_lst (pa_cons (pe_listGD G_stages (hr.mono (by omega)) (by rfl) (by rfl) B.n_list (pa_cons (pv 0) (pa_cons (pv 1) pa_nil))) (pa_cons (pe_listGK GK_stages (hr.mono (by omega)) (by rfl) (by rfl) B.n_list (pk_cons (pv 1) (pk_cons (pv 0) pk_nil))) pa_nil))) (pe_lst (pa_cons (pv 3) (pa_cons (pv 3) pa_nil))) (nomark _))
 (pss_one (ps_ret pe_bl))
 pss_nil)
 (pss_cons (ps_if (pt_cmpR op_ne (pe_callB (id := "repr") (call_reprV quiet hr.units) (by rfl) B.n_repr (by decide +kernel) (pa_cons (pe_lst (pa_cons (pe_callD D_squeezed (hr.mono (by omega)) (by rfl) (pa_cons (pv 0) (pa_cons (pv 1) pa_nil))) (pa_cons (pe_callKD K_squeezed (hr.mono (by omega)) (by rfl) (pk_cons (pv 1) (pk_cons (pv 0) pk_nil))) pa_nil))) pa_nil)) (pe_callB (id := "repr") (call_reprV quiet hr.units) (by rfl) B.n_repr (by decide +kernel) (pa_cons (pe_op op_rep (pe_lst (pa_cons (pe_ix (r := rIxL K) ix_list (pv 3) (pe_un un_neg pe_int) (fun _ _ => rfl)) pa_nil)) pe_int) pa_nil)) (nomark _))
 (pss_one (ps_ret pe_bl))
 pss_nil)
 (pss_cons (ps_for PassesOwn.never rfl (pi_list (pe_lst (pa_cons pe_int (pa_cons (pe_op op_fdiv (pe_callB (id := "len") (r := rLenK K) call_lenK (by rfl) B.n_len (by decide +kernel) (pa_cons (pv 1) pa_nil)) pe_int) (pa_cons (pe_callB (id := "len") (r := rLenK K) call_lenK (by rfl) B.n_len (by decide +kernel) (pa_cons (pv 1) pa_nil)) pa_nil))))) (pg_name (i := 5) sc_lawright.nd rfl (Or.inl rfl))
 (pss_one (ps_if (pt_cmpR op_ne (pe_callD D_squeezed (hr.mono (by omega)) (by rfl) (pa_cons (pe_callD D_squeezed (hr.mono (by omega)) (by rfl) (pa_cons (pv 0) (pa_cons (pe_slice sl_list (pv 1) po_none (po_some (pv 5))) pa_nil))) (pa_cons (pe_slice sl_list (pv 1) (po_some (pv 5)) po_none) pa_nil))) (pe_ix (r := rIxL K) ix_list (pv 3) (pe_un un_neg pe_int) (fun _ _ => rfl)) (nomark _))
 (pss_one (ps_ret pe_bl))
 pss_nil)))
 (pss_one (ps_ret (pe_cmpR op_eq (pe_callB (id := "repr") (call_reprV quiet hr.units) (by rfl) B.n_repr (by decide +kernel) (pa_cons (pv 1) pa_nil)) (pv 2) (nomark _))))))))), ?_⟩
    have lim : sizeLine = 16777216 := sizeLine_eq
    have w1 : 1 ≤ sizeLine := by omega
    have w2 : 2 ≤ sizeLine := by omega
    have w3 : 3 ≤ sizeLine := by omega
    have rk : Rpl ks := fun k h => by have := hk k h; omega
    have n31 : ∀ k ∈ ks, k.natAbs < 10 ^ 31 := fun k h => by have := hk k h; omega
    obtain ⟨gi, di⟩ := gda_ints ks n31
    have shI : ∀ {H' : Hp} {p : Addr}, H' p = some (.lst (ks.map V.int)) → Shown K H' (.ref p) (.list (ks.map PyData.int)) := fun g => gi.list.shown (by omega) (.lst (SqL.of g) (dp_ints ks))
    refine ⟨_, rfl, .ref a, _, rfl, shI ga, _, rfl, w1, fun d hd => ?_⟩
    obtain ⟨KS, eKS⟩ : ∃ KS, KS = (PyData.list (ks.map PyData.int)).shown := ⟨_, rfl⟩
    rw [← eKS]
    have nad : a ≠ d := ne_of_none ga hd
    refine ⟨_, _, rfl, ?_⟩
    refine ⟨_, rfl, a, rfl, ⟨_, SqL.of (same_new hd _ _ ga)⟩, for_list (K := K) (a := a) (xs := ks.map V.int) (fun i σ H' => Same H (wo H' d) ∧ H' d = some (.lst ((stg n ks (i + 1)).map V.int)) ∧ ∃ y, σ = [some (.int n), some (.ref a), some (.str KS), some (.ref d), y, none])
      ⟨by rw [wo_upd]; exact same_wo (Same.refl _) hd, upd_same, none, rfl⟩ (fun i σ H' _ h => SqL.of (wo_same _ _ (h.1 _ _ ga))) ?_ ?_⟩
    · rintro i x σ H' hi ⟨s1, gd, y, rfl⟩
      obtain ⟨k, e, rfl⟩ := map_at hi
      have hm := hk k (List.mem_of_getElem? e)
      have li := (List.getElem?_eq_some_iff.mp e).1
      have lastd : ((stg n ks (i + 1)).map V.int).getLast? = some (.int (sq n (ks.take i))) := by
        rw [stg_succ, List.map_append]
        simp
      refine ⟨_, rfl, .inl ⟨rfl, _, SqL.of gd⟩, _, rfl, 1, rfl, d, _, -1, _, rfl, rfl, SqL.of gd, atI_lst _ _ lastd, _, rfl, _, k, rfl, hm.1, by omega, d, _, _, rfl, rfl, gd, by rw [List.length_map, stg_len]; omega, by rw [wo_upd]; exact s1, ?_, _, rfl⟩
      rw [upd_same, stg_succ n ks (i + 1), List.map_append, List.take_add_one, e]
      show some (HO.lst (_ ++ [V.int (once (sq n (ks.take i)) k)])) = some (HO.lst (_ ++ [V.int (sq n (ks.take i ++ [k]))]))
      rw [sq_concat]
    · rintro σ H1 ⟨s1, gd, y, rfl⟩
      rw [List.length_map] at gd
      have sH : Same H H1 := s1.trans wo_same
      have ga1 := sH _ _ ga
      have hS1 : ∀ {H' : Hp}, Same H1 H' → SqL K H' a (ks.map V.int) := fun s => SqL.of (s _ _ ga1)
      obtain ⟨ds, eds⟩ : ∃ ds, ds = stg n ks (ks.length + 1) := ⟨_, rfl⟩
      have lds : ds.length = ks.length + 1 := by rw [eds, stg_len]
      have lastd : (ds.map V.int).getLast? = some (.int (sq n ks)) := by
        rw [eds, stg_succ, List.map_append, List.take_length]
        simp
      rw [← eds] at gd
      have sh2 : ∀ as bs : List Int, SeqAt.shaped (.list [.list (as.map PyData.int), .list (bs.map PyData.int)]) = true := fun as bs => shaped_rows [as, bs]
      refine ⟨_, rfl, _, rfl, n, a, ks, rfl, hS1 (Same.refl _), n0, rk, by omega, fun H2 s2 p1 hp1 => ?_⟩
      rw [← eds]
      have s12 := s2.trans (same_new (o := .lst (ds.map V.int)) hp1)
      refine ⟨_, rfl, _, rfl, rfl, n, a, ks, rfl, hS1 s12, n0, rk, by omega, fun H3 s3 p2 hp2 => ?_⟩
      rw [← eds]
      have s23 := s3.trans (same_new (o := .lst (ds.map V.int)) hp2)
      refine ⟨w2, fun t1 ht1 => ?_⟩
      have s3t := same_new (o := .lst [V.ref p1, V.ref p2]) ht1
      refine ⟨_, rfl, _, rfl, w2, fun t2 ht2 => ?_⟩
      have st2 := same_new (o := .lst [V.ref d, V.ref d]) ht2
      have g1 := st2 _ _ (s3t _ _ (s23 _ _ (upd_same (H := H2) (a := p1) (o := .lst (ds.map V.int)))))
      have g2 := st2 _ _ (s3t _ _ (upd_same (H := H3) (a := p2) (o := .lst (ds.map V.int))))
      have gt1 := st2 _ _ (upd_same (H := upd H3 p2 (.lst (ds.map V.int))) (a := t1) (o := .lst [V.ref p1, V.ref p2]))
      have s14 : Same H1 _ := ((s12.trans s23).trans s3t).trans st2
      have gd4 := s14 _ _ gd
      refine ⟨.list [.list (ds.map PyData.int), .list (ds.map PyData.int)], .list [.list (ds.map PyData.int), .list (ds.map PyData.int)], .lst (SqL.of gt1) (.cons (.lst (SqL.of g1) (dp_ints ds)) (.cons (.lst (SqL.of g2) (dp_ints ds)) .nil)), .lst (SqL.of upd_same) (.cons (.lst (SqL.of gd4) (dp_ints ds)) (.cons (.lst (SqL.of gd4) (dp_ints ds)) .nil)), sh2 _ _, sh2 _ _, _, rfl, ?_⟩
      rw [eqv_two]
      refine iteF ?_
      obtain ⟨H4, eH4⟩ : ∃ H4, H4 = upd (upd (upd H3 p2 (HO.lst (List.map V.int ds))) t1 (HO.lst [V.ref p1, V.ref p2])) t2 (HO.lst [V.ref d, V.ref d]) := ⟨_, rfl⟩
      rw [← eH4] at gd4 s14 ⊢
      clear eH4 g1 g2 gt1 st2 s3t
      obtain ⟨m, em⟩ : ∃ m, m = sq n ks := ⟨_, rfl⟩
      have mb : 0 ≤ m ∧ m ≤ n := by
        rw [em]
        exact ⟨sq_nn rk.two n0, sq_le_self ks n rk.two n0⟩
      obtain ⟨gm, dm⟩ := gda_ints [m, m] (fun k h => by
        have : k = m := by simpa using h
        omega)
      have shM : ∀ {H' : Hp} {p : Addr}, H' p = some (.lst [V.int m, V.int m]) → Shown K H' (.ref p) (.list [.int m, .int m]) := fun g => gm.list.shown (by show 122 * 2 ≤ 100000; decide) (.lst (SqL.of g) (dp_ints [m, m]))
      rw [← em] at lastd
      refine ⟨_, rfl, _, rfl, n, a, ks, rfl, hS1 s14, n0, rk, fun H5 s5 => ?_⟩
      refine ⟨_, rfl, _, rfl, rfl, rfl, n, a, ks, rfl, hS1 (s14.trans s5), n0, rk, fun H6 s6 => ?_⟩
      rw [← em]
      refine ⟨w2, fun t3 ht3 => ⟨.ref t3, _, rfl, shM upd_same, ?_⟩⟩
      have s63 := s6.trans (same_new (o := .lst [V.int m, V.int m]) ht3)
      refine ⟨_, rfl, 1, rfl, d, _, -1, _, rfl, rfl, SqL.of (s63 _ _ (s5 _ _ gd4)), atI_lst _ _ lastd, w1, fun t4 ht4 => ?_⟩
      refine ⟨t4, 2, _, rfl, rfl, upd_same, by decide, by decide, by show 1 * 2 ≤ sizeLine; omega, fun t5 ht5 => ⟨.ref t5, _, rfl, shM upd_same, rfl, _, rfl, ?_⟩⟩
      rw [decide_eq_true rfl]
      refine iteF ?_
      have s45 := (s63.trans (same_new (o := .lst [V.int m]) ht4)).trans (same_new (o := .lst (List.replicate (2 : Int).toNat [V.int m]).flatten) ht5)
      have s17 := (s14.trans s5).trans s45
      have gd7 := s45 _ _ (s5 _ _ gd4)
      obtain ⟨H7, eH7⟩ : ∃ H7, H7 = upd (upd (upd H6 t3 (HO.lst [V.int m, V.int m])) t4 (HO.lst [V.int m])) t5 (HO.lst (List.replicate (2 : Int).toNat [V.int m]).flatten) := ⟨_, rfl⟩
      refine tellNx (fun σ2 H' => (∃ c, σ2 = [some (.int n), some (.ref a), some (.str KS), some (.ref d), y, c]) ∧ Same H1 H') (fun N hN => ?_) (fun σ2 H' h => ?_)
      · rw [← eH7] at s17 gd7 ⊢
        clear eH7 s45 s63
        have l0 : (0 : Int) ≤ ((ks.map V.int).length : Int) / 2 ∧ ((ks.map V.int).length : Int) / 2 ≤ (ks.map V.int).length := by
          constructor <;> omega
        refine ⟨_, rfl, a, _, rfl, .inl (hS1 s17), _, 2, rfl, rfl, ⟨by decide, by decide⟩, _, rfl, a, _, rfl, .inl (hS1 s17), w3, fun t6 ht6 => ?_⟩
        have s18 := s17.trans (same_new (o := .lst ([0, ((ks.map V.int).length : Int) / 2, ((ks.map V.int).length : Int)].map V.int)) ht6)
        have g6 : (upd H7 t6 (.lst ([0, ((ks.map V.int).length : Int) / 2, ((ks.map V.int).length : Int)].map V.int))) t6 = some (.lst ([0, ((ks.map V.int).length : Int) / 2, ((ks.map V.int).length : Int)].map V.int)) := upd_same
        refine ⟨t6, rfl, ⟨_, SqL.of g6⟩, for_list (K := K) (a := t6) (xs := [0, ((ks.map V.int).length : Int) / 2, ((ks.map V.int).length : Int)].map V.int) (fun i σ H' => (∃ c, σ = [some (.int n), some (.ref a), some (.str KS), some (.ref d), y, c]) ∧ Same (upd H7 t6 (.lst ([0, ((ks.map V.int).length : Int) / 2, ((ks.map V.int).length : Int)].map V.int))) H') ⟨⟨none, rfl⟩, Same.refl _⟩ (fun i σ H' _ h => SqL.of (h.2 _ _ g6)) ?_ ?_⟩
        · rintro i x σ H' hi ⟨⟨c0, rfl⟩, s8⟩
          obtain ⟨z, e, rfl⟩ := map_at hi
          have zb : 0 ≤ z ∧ z ≤ (ks.map V.int).length := by
            have := List.mem_of_getElem? e
            simp only [List.mem_cons, List.not_mem_nil, or_false] at this
            rcases this with rfl | rfl | rfl <;> omega
          obtain ⟨cut, rfl⟩ : ∃ cut : Nat, z = (cut : Int) := ⟨z.toNat, by omega⟩
          have s19 := s18.trans s8
          have clk : cut ≤ ks.length := by rw [List.length_map] at zb; omega
          have gd8 := s8 _ _ (same_new (o := .lst ([0, ((ks.map V.int).length : Int) / 2, ((ks.map V.int).length : Int)].map V.int)) ht6 _ _ gd7)
          have rt : Rpl (ks.take cut) := fun k h => rk k (List.mem_of_mem_take h)
          have rd : Rpl (ks.drop cut) := fun k h => rk k (List.mem_of_mem_drop h)
          refine ⟨_, rfl, _, rfl, noPart ⟨_, rfl, (cut : Int), rfl, a, _, rfl, hS1 s19, fun p3 hp3 => ?_⟩⟩
          rw [cut_take _ cut (by rw [List.length_map]; exact clk), ← List.map_take]
          have s20 := s19.trans (same_new (o := .lst ((ks.take cut).map V.int)) hp3)
          refine ⟨n, p3, ks.take cut, rfl, SqL.of upd_same, n0, rt, fun H9 s9 => ?_⟩
          have s21 := s20.trans s9
          refine ⟨_, rfl, _, rfl, (cut : Int), rfl, noPart ⟨a, _, rfl, hS1 s21, fun p4 hp4 => ?_⟩⟩
          rw [cut_drop _ cut (by rw [List.length_map]; exact clk), ← List.map_drop]
          refine ⟨sq n (ks.take cut), p4, ks.drop cut, rfl, SqL.of upd_same, sq_nn rt.two n0, rd, fun H10 s10 => ?_⟩
          have em2 : sq (sq n (ks.take cut)) (ks.drop cut) = m := by rw [← sq_app, List.take_append_drop, em]
          rw [em2]
          have gd10 := s10 _ _ (same_new (o := .lst ((ks.drop cut).map V.int)) hp4 _ _ (s9 _ _ (same_new (o := .lst ((ks.take cut).map V.int)) hp3 _ _ gd8)))
          refine ⟨_, rfl, 1, rfl, d, _, -1, _, rfl, rfl, SqL.of gd10, atI_lst _ _ lastd, rfl, _, rfl, ?_⟩
          rw [decide_eq_true rfl]
          exact iteF ⟨⟨_, rfl⟩, (((s8.trans (same_new hp3)).trans s9).trans (same_new hp4)).trans s10⟩
        · rintro σ H' ⟨⟨c0, rfl⟩, s8⟩
          exact hN _ _ ⟨⟨c0, rfl⟩, s18.trans s8⟩
      · obtain ⟨⟨c, rfl⟩, s8⟩ := h
        refine ⟨_, rfl, .ref a, _, rfl, shI (s8 _ _ ga1), _, rfl, rfl, ?_⟩
        rw [← eKS, decide_eq_true rfl]
        exact q _ (sH.trans s8)
end
end Sq
set_option Elab.async false
set_option linter.all false
set_option maxRecDepth 100000
set_option maxHeartbeats 1000000
/-! Texts of lists: what the laws share. -/
namespace Sq
open PySem PySem.Spec PyProof.Rows L2
open TL (numL numL_len)
theorem small_dec {l : List Nat} (h : ((TL.spl [44, 32] 0 [] l).all fun p => match rPart p with | some (_, k) => decide (k ≤ 1000) | none => true) = true) : Small l := fun p hp n k e => by
  have := List.all_eq_true.mp h p hp
  rw [e] at this
  exact of_decide_eq_true this
end Sq
set_option Elab.async false
set_option linter.all false
set_option maxRecDepth 100000
set_option maxHeartbeats 4000000
set_option exponentiation.threshold 2000
namespace Sq
open PySem PySem.Spec PyProof.Rows L2
theorem walkI {J : It} {n : Nat} {G : Hp → Prop} {Y : Nat → Hp → V → Hp → Prop} (Wk : Walk J n G Y) {Qd : Hp → Prop} {St : V → Hp → (Hp → Prop) → Prop} {H0 : Hp} (Pv : Nat → Hp → Prop) (h0 : Pv 0 H0) (hl : ∀ i H, i ≤ n → Pv i H → G H)
    (hs : ∀ i x H H', i < n → Pv i H → Y i H x H' → St x H' (Pv (i + 1))) (hd : ∀ H, Pv n H → Qd H) :
    ∃ W : Nat → Nat → Hp → Prop, (∃ m, W 0 m H0) ∧ ∀ i m H, W i m H → (J.stop i H ∧ Qd H) ∨ (J.go i H ∧ ∃ Nx : Hp → Prop, (∀ H', Nx H' → ∃ m', m' < m ∧ W (i + 1) m' H') ∧ ∀ x H', J.yld i H x H' → St x H' Nx) := by
  refine ⟨fun i m H => m = n - i ∧ i ≤ n ∧ Pv i H, ⟨_, rfl, Nat.zero_le _, h0⟩, ?_⟩
  rintro i m H ⟨rfl, le, p⟩
  have there := hl i H le p
  by_cases lt : i < n
  · exact .inr ⟨Wk.goes i H lt there, Pv (i + 1), fun H' p' => ⟨n - (i + 1), by omega, rfl, lt, p'⟩, fun x H' y => hs i x H H' lt p (Wk.yields i H x H' lt there y)⟩
  · obtain rfl : i = n := by omega
    exact .inl ⟨Wk.stops H there, hd H p⟩
theorem restate {t : TS} {D : Ends} {σ σ' : L2.St} {H H' : Hp} (e1 : σ = σ') (e2 : H = H') (h : t D σ' H') : t D σ H := by
  subst e1 e2
  exact h
section
variable {P : Program} {w : World} {K : PySem.W.Frag} {mg : Str → Option Value} {base : Heap}
def spLaw (K : PySem.W.Frag) : Sp := fun vs H Q _ => ∃ (a : Addr) (ns : List Int), vs = [.ref a] ∧ SqL K H a (ns.map V.int) ∧ ns.length ≤ 63 ∧ ∀ H', Q (.bl true) H'
theorem ok_law {f : Addr} {fd : FuncData} (F : Fun K "law" "law" s_law f fd) (B : Bi mg) (D_lawrng : Df P w K mg base 1 "_law_rng" ["script"] (spRng K)) (D_lawdraw : Df P w K mg base 1 "_law_draw" ["rng", "limit"] spDraw)
    (D_lawlist : Df P w K mg base 2 "_law_list" ["rng", "most", "greatest"] spList) (D_lawmany : Df P w K mg base 2 "_law_many" ["rng", "some"] (spMany K)) (D_lawright : Dgr P w K mg base 7 "_law_right" ["many", "some"] spRight)
    (D_squeezed : Df P w K mg base 3 "squeezed" ["length", "replacements"] (spSqueezed K)) (D_readlist : Df P w K mg base 2 "read_list" ["text"] spReadT) (D_lawonce : Df P w K mg base 1 "_law_once" ["many", "number"] spOnce) (D_lawafter : Df P w K mg base 2 "_law_after" ["many", "some"] (spAfter K))
    (G_stages : Dg P w K mg base 3 "stages" ["length", "replacements"] (spStages K)) {fs : Addr} {fds : FuncData} (X_stages : GFnX P w K mg base 3 fs fds ["length", "replacements"] spStagesX) (g_stages : mg "stages" = some (.ref fs)) (k_stages : PySem.W.keepIn K (.ref fs) = true) (b_stages : Binds K fds ["length", "replacements"] []) :
    Top P w K mg base 8 f fd "script" (spLaw K) := by
  refine atTop F sc_law ⟨rfl, by decide, by decide⟩ (fun vs H Q E h => ?_) (fun cdv outer s H vs Q E hr h => ?_)
  · obtain ⟨a, ns, rfl, _⟩ := h
    rfl
  · obtain ⟨a, ns, rfl, hS, hn, q⟩ := h
    refine ⟨_, (pss_cons (ps_set (i := 1) sc_law.nd rfl (Or.inl rfl) (pe_callD D_lawrng (hr.mono (by omega)) (by rfl) (pa_cons (pv 0) pa_nil)))
 (pss_cons (ps_for PassesOwn.never rfl (pi_range1 (by rfl) B.n_range (pa_cons (pe_op op_add pe_int (pe_callB (id := "min") (call_min2 rfl) (by rfl) B.n_min (by decide +kernel) (pa_cons pe_int (pa_cons (pe_callB (id := "len") (r := rLenK K) call_lenK (by rfl) B.n_len (by decide +kernel) (pa_cons (pv 0) pa_nil)) pa_nil)))) pa_nil)) (pg_name (i := 2) sc_law.nd rfl (Or.inl rfl))
 (pss_cons (ps_set (i := 3) sc_law.nd rfl (Or.inl rfl) (pe_callD D_lawlist (hr.mono (by omega)) (by rfl) (pa_cons (pv 1) (pa_cons (pe_ix (r := rIxL K) ix_list (pe_lst (pa_cons pe_int (pa_cons pe_int pa_nil))) (pe_callD D_lawdraw (hr.mono (by omega)) (by rfl) (pa_cons (pv 1) (pa_cons pe_int pa_nil))) (fun _ _ => rfl)) (pa_cons (pe_ix (r := rIxL K) ix_list (pe_lst (pa_cons pe_int (pa_cons pe_int (pa_cons (pe_op op_pow pe_int pe_int) pa_nil)))) (pe_callD D_lawdraw (hr.mono (by omega)) (by rfl) (pa_cons (pv 1) (pa_cons pe_int pa_nil))) (fun _ _ => rfl)) pa_nil)))))
 (pss_cons (ps_for PassesOwn.never rfl (pi_range1 (by rfl) B.n_range (pa_cons pe_int pa_nil)) (pg_name (i := 4) sc_law.nd rfl (Or.inl rfl))
 (pss_one (ps_if (pt_not (pt_val (pe_callG D_lawright (hr.mono (by omega)) rfl (by rfl) (pa_cons (pe_callD D_lawmany (hr.mono (by omega)) (by rfl) (pa_cons (pv 1) (pa_cons (pv 3) pa_nil))) (pa_cons (pv 3) pa_nil)))))
 (pss_one (ps_ret pe_bl))
 pss_nil)))
 (pss_cons (ps_if (pt_cmpR op_lt (pe_callB (id := "len") (r := rLenK K) call_lenK (by rfl) B.n_len (by decide +kernel) (pa_cons (pv 3) pa_nil)) pe_int (nomark _))
 (pss_cons (ps_expr (pe_bm PySem.F.plainAttrs_list PySem.F.slot_list_insert PySem.F.type_list_insert mt_insert (pv 3) (pa_cons (pe_callD D_lawdraw (hr.mono (by omega)) (by rfl) (pa_cons (pv 1) (pa_cons (pe_op op_add (pe_callB (id := "len") (r := rLenK K) call_lenK (by rfl) B.n_len (by decide +kernel) (pa_cons (pv 3) pa_nil)) pe_int) pa_nil))) (pa_cons (pe_op op_add pe_int (pe_callD D_lawdraw (hr.mono (by omega)) (by rfl) (pa_cons (pv 1) (pa_cons pe_int pa_nil)))) pa_nil))))
 (pss_one (ps_if (pt_not (pt_val (pe_callG D_lawright (hr.mono (by omega)) rfl (by rfl) (pa_cons (pe_callD D_lawmany (hr.mono (by omega)) (by rfl) (pa_cons (pv 1) (pa_cons (pv 3) pa_nil))) (pa_cons (pv 3) pa_nil)))))
 (pss_one (ps_ret pe_bl))
 pss_nil)))
 pss_nil)
 (pss_one (ps_if (pt_cmpR (op_neD hr.units) (pe_lst (pa_cons (pe_callD D_squeezed (hr.mono (by omega)) (by rfl) (pa_cons pe_int (pa_cons (pv 3) pa_nil))) (pa_cons (pe_callD D_squeezed (hr.mono (by omega)) (by rfl) (pa_cons pe_int (pa_cons (pv 3) pa_nil))) (pa_cons (pe_callD D_squeezed (hr.mono (by omega)) (by rfl) (pa_cons pe_int (pa_cons (pe_lst (pa_cons pe_int pa_nil)) pa_nil))) pa_nil)))) (pe_lst (pa_cons pe_int (pa_cons pe_int (pa_cons pe_int pa_nil)))) (nomark _))
 (pss_one (ps_ret pe_bl))
 pss_nil))))))
 (pss_cons (ps_set (i := 5) sc_law.nd rfl (Or.inl rfl) (pe_callD D_readlist (hr.mono (by omega)) (by rfl) (pa_cons pe_str pa_nil)))
 (pss_cons (ps_set (i := 6) sc_law.nd rfl (Or.inl rfl) (pe_op op_sub (pe_op op_sub (pe_op op_pow pe_int pe_int) pe_int) (pe_callD D_lawdraw (hr.mono (by omega)) (by rfl) (pa_cons (pv 1) (pa_cons pe_int pa_nil)))))
 (pss_cons (ps_zipLc (i := 7) X_stages (hr.mono (by omega)) (by rfl) g_stages k_stages b_stages (ga_cons ge_int (ga_cons (ge_lst (ga_cons ge_int (ga_cons ge_int ga_nil))) ga_nil)) (ga_cons ge_int (ga_cons (ge_lst (ga_cons ge_int (ga_cons ge_int ga_nil))) ga_nil)) (by rfl) B.n_zip rfl hr.depth sc_law.nd rfl rfl (blkOk_by (own := [("one", 10), ("other", 12)]) (N := ["script", "rng", "lap", "some", "turn", "long", "many", "both", "walk", "later", "one", "number", "other"]) (sc := defScope s_law) (by decide +kernel)) rfl rfl (by decide) (sw_true rfl rfl rfl (by decide +kernel)))
 (pss_cons (ps_if (pt_cmpR (op_neD hr.units) (pv 7) (pe_lst (pa_cons (pe_lst (pa_cons pe_int (pa_cons pe_int pa_nil))) (pa_cons (pe_lst (pa_cons pe_int (pa_cons pe_int pa_nil))) (pa_cons (pe_lst (pa_cons pe_int (pa_cons pe_int pa_nil))) pa_nil)))) (nomark _))
 (pss_one (ps_ret pe_bl))
 pss_nil)
 (pss_cons (ps_set (i := 8) sc_law.nd rfl (Or.inl rfl) (pe_listGD G_stages (hr.mono (by omega)) (by rfl) (by rfl) B.n_list (pa_cons (pv 6) (pa_cons (pv 5) pa_nil))))
 (pss_cons (ps_setLc (own := [("one", 10), ("number", 11)]) (g := gTup K 2 (gCons (gName 10) (gCons (gName 11) gNil))) (i := 9) rfl sc_law.nd rfl rfl (sw_true rfl rfl rfl (by decide +kernel)) (pi_zip (by rfl) B.n_zip (pa_cons (pv 8) (pa_cons (pv 5) pa_nil))) (blkOk_by (own := [("one", 10), ("number", 11)]) (N := ["script", "rng", "lap", "some", "turn", "long", "many", "both", "walk", "later", "one", "number", "other"]) (sc := defScope s_law) (by decide +kernel)) (fun _ _ _ _ _ => (pg_tup rfl (pgs_cons (pg_name (i := 10) sc_law.nd rfl (Or.inl rfl)) (pgs_cons (pg_name (i := 11) sc_law.nd rfl (Or.inl rfl)) pgs_nil)))) (fun _ _ _ _ _ => pts_nil) (fun _ _ _ _ _ => (pe_callD D_lawonce (hr.mono (by omega)) (by rfl) (pa_cons (pv 10) (pa_cons (pv 11) pa_nil)))))
 (pss_cons (ps_if (PW.pt (pw_or (pt_cmpR op_ne (pe_callB (id := "len") (r := rLenK K) call_lenK (by rfl) B.n_len (by decide +kernel) (pa_cons (pv 8) pa_nil)) pe_int (nomark _)) (pw_or1 (pt_cmpR (op_neD hr.units) (pv 9) (pe_slice sl_list (pv 8) (po_some pe_int) po_none) (nomark _)))))
 (pss_one (ps_ret pe_bl))
 pss_nil)
 (pss_one (ps_ret (pe_and (pe_cmpR op_eq (pe_callD D_squeezed (hr.mono (by omega)) (by rfl) (pa_cons (pv 6) (pa_cons (pv 5) pa_nil))) (pe_callD D_lawafter (hr.mono (by omega)) (by rfl) (pa_cons (pv 6) (pa_cons (pv 5) pa_nil))) (nomark _)) (pe_one (pe_cmpR op_eq (pe_callD D_squeezed (hr.mono (by omega)) (by rfl) (pa_cons pe_int (pa_cons (pe_lst (pa_cons pe_int (pa_cons pe_int (pa_cons pe_int pa_nil)))) pa_nil))) pe_int (nomark _))))))))))))))), ?_⟩
    have lim : sizeLine = 16777216 := sizeLine_eq
    have w1 : 1 ≤ sizeLine := by omega
    have w2 : 2 ≤ sizeLine := by omega
    have w3 : 3 ≤ sizeLine := by omega
    refine ⟨_, rfl, a, ns, rfl, hS, hn, fun l seed H1 hl s1 S1 => ?_⟩
    refine ⟨_, rfl, a, _, rfl, .inl (s1.seq hS), 10, _, rfl, 5, _, rfl, rfl, ?_⟩
    rw [List.length_map]
    obtain ⟨N, eN⟩ : ∃ N, N = 5 + (if (ns.length : Int) < 10 then (ns.length : Int) else 10) := ⟨_, rfl⟩
    have hN : 5 ≤ N ∧ N ≤ 15 := by
      rw [eN]
      split <;> omega
    refine ⟨N, by subst eN; rfl, by omega, by omega, for_range (lo := 0) (n := N.toNat) (fun i σ H' => ∃ cnt y2 y3 y4 y5 y6 y7 y8 y9 y10 y11 y12, σ = [some (.ref a), some (.ref l), y2, y3, y4, y5, y6, y7, y8, y9, y10, y11, y12] ∧ Rng H' l seed cnt ∧ cnt ≤ 300 * i)
      ⟨0, none, none, none, none, none, none, none, none, none, none, none, rfl, S1, by omega⟩ ?_ ?_⟩
    · rintro i σ H2 hi ⟨cnt, y2, y3, y4, y5, y6, y7, y8, y9, y10, y11, y12, rfl, S2, hc2⟩
      refine ⟨_, rfl, w2, fun t0 ht0 => ?_⟩
      have nt0 := S2.ne ht0
      refine ⟨_, rfl, l, seed, cnt, 2, rfl, S2.upd nt0, by omega, by decide, by decide, fun z1 c1 H3 z10 z11 S3 hc3 k3 => ?_⟩
      obtain ⟨M, mM, eM⟩ := nth_of (xs := [4, 12]) z10 (by simpa using z11)
      have hM : 0 ≤ M ∧ M ≤ 12 := by
        simp only [List.mem_cons, List.not_mem_nil, or_false] at mM
        omega
      have gt0 := k3 _ _ (upd_same (H := H2) (a := t0)) nt0
      refine ⟨t0, _, z1, .int M, rfl, rfl, SqL.of gt0, eM, ?_⟩
      refine ⟨10, 6, rfl, rfl, ⟨by decide, by decide, by decide⟩, w3, fun t ht => ?_⟩
      have ntl := S3.ne ht
      refine ⟨_, rfl, l, seed, c1, 3, rfl, S3.upd ntl, by omega, by decide, by decide, fun z2 c2 H4 z20 z21 S4 hc4 k4 => ?_⟩
      have gt := k4 _ _ (upd_same (H := H3) (a := t)) ntl
      obtain ⟨g, mg', eg⟩ := nth_of (xs := [9, 60, (10 : Int) ^ (6 : Int).toNat]) z20 (by simpa using z21)
      have hg : 3 ≤ g ∧ g ≤ 1000000 := by
        have e6 : (10 : Int) ^ (6 : Int).toNat = 1000000 := by decide
        simp only [List.mem_cons, List.not_mem_nil, or_false, e6] at mg'
        omega
      refine ⟨t, _, z2, .int g, rfl, rfl, SqL.of gt, eg, ?_⟩
      refine ⟨l, seed, c2, M, g, rfl, hM.1, hM.2, hg.1, hg.2, S4, by omega, fun p ks c3 H5 np S5 hc5 k5 gp lk hk => ?_⟩
      have npl := S4.ne np
      refine ⟨4, rfl, by decide, by decide, for_range (lo := 0) (n := (4 : Int).toNat) (fun j σ H' => ∃ c y4, σ = [some (.ref a), some (.ref l), some (.int (0 + (i : Int))), some (.ref p), y4, y5, y6, y7, y8, y9, y10, y11, y12] ∧ Rng H' l seed c ∧ c ≤ c3 + 6 * j ∧ H' p = some (.lst (ks.map V.int)))
        ⟨c3, y4, rfl, S5, by omega, gp⟩ ?_ ?_⟩
      · rintro j σ H6 hj ⟨c, y4, rfl, S6, hc, gp6⟩
        have hj4 : j < 4 := hj
        refine ⟨_, rfl, _, rfl, l, p, seed, c, ks, rfl, S6, by omega, npl, gp6, lk, hk, fun n c' H7 n0 n1 S7 hc7 k7 => ?_⟩
        have gp7 := k7 _ _ gp6 npl
        refine ⟨_, rfl, n, p, ks, rfl, n0, n1, gp7, lk, hk, fun H8 s8 => ⟨_, rfl, iteF ?_⟩⟩
        exact ⟨c', _, rfl, S7.same s8, by omega, s8 _ _ gp7⟩
      · rintro σ H6 ⟨c, y4, rfl, S6, hc, gp6⟩
        have hc : c ≤ c3 + 24 := hc
        refine tellNx (fun σ2 H' => ∃ (ks' : List Int) (c' : Int) (y4 : Option V), σ2 = [some (.ref a), some (.ref l), some (.int (0 + (i : Int))), some (.ref p), y4, y5, y6, y7, y8, y9, y10, y11, y12] ∧ Rng H' l seed c' ∧ c' ≤ c3 + 40 ∧ H' p = some (.lst (ks'.map V.int)) ∧ ks'.length ≤ 12 ∧ ∀ k ∈ ks', 2 ≤ k ∧ k ≤ 1000000) (fun N hN => ?_) (fun σ2 H' h => ?_)
        · refine ⟨_, rfl, p, _, rfl, .inl (SqL.of gp6), _, _, rfl, rfl, _, rfl, ?_⟩
          rw [List.length_map]
          refine ite2 (fun cc => ?_) (fun cc => hN _ _ ⟨ks, c, _, rfl, S6, by omega, gp6, lk, hk⟩)
          have l12 : ks.length < 12 := by have := of_decide_eq_true cc; omega
          refine ⟨_, rfl, .inl ⟨rfl, _, SqL.of gp6⟩, ?_⟩
          refine ⟨_, rfl, _, rfl, p, _, rfl, .inl (SqL.of gp6), _, _, rfl, rfl, l, seed, c, _, rfl, S6, by omega, by rw [List.length_map]; omega, lim10 (by rw [List.length_map]; omega), fun zc c7 H7 zc0 zc1 S7 hc7 k7 => ?_⟩
          rw [List.length_map] at zc1
          refine ⟨_, rfl, l, seed, c7, 9, rfl, S7, by omega, by decide, by decide, fun zk c8 H8 zk0 zk1 S8 hc8 k8 => ?_⟩
          have gp8 := k8 _ _ (k7 _ _ gp6 npl) npl
          refine ⟨_, _, rfl, rfl, p, _, zc, .int (2 + zk), rfl, rfl, gp8, by rw [List.length_map]; omega, zc0, by omega, ?_⟩
          obtain ⟨ls, els⟩ : ∃ ls, ls = ks.take zc.toNat ++ [2 + zk] ++ ks.drop zc.toNat := ⟨_, rfl⟩
          have e1 : (ks.map V.int).take zc.toNat ++ [V.int (2 + zk)] ++ (ks.map V.int).drop zc.toNat = ls.map V.int := by
            rw [els, List.map_append, List.map_append, List.map_take, List.map_drop]
            rfl
          have e2 : List.take zc.toNat (ks.map V.int) ++ [V.int (2 + zk)] ++ List.drop zc.toNat (ks.map V.int) = ls.map V.int := e1
          rw [e2]
          have hls : ∀ k ∈ ls, 2 ≤ k ∧ k ≤ 1000000 := fun k h => by
            rw [els] at h
            rcases List.mem_append.mp h with h | h
            · rcases List.mem_append.mp h with h | h
              · exact hk k (List.mem_of_mem_take h)
              · rw [List.mem_singleton.mp h]
                omega
            · exact hk k (List.mem_of_mem_drop h)
          have lls : ls.length ≤ 12 := by
            rw [els, List.length_append, List.length_append, List.length_take, List.length_drop]
            simp only [List.length_cons, List.length_nil]
            omega
          have gp9 : (upd H8 p (.lst (ls.map V.int))) p = some (.lst (ls.map V.int)) := upd_same
          have S9 : Rng (upd H8 p (.lst (ls.map V.int))) l seed c8 := S8.upd npl
          generalize upd H8 p (.lst (ls.map V.int)) = H9 at gp9 S9 ⊢
          refine ⟨_, rfl, _, rfl, l, p, seed, c8, ls, rfl, S9, by omega, npl, gp9, lls, hls, fun n c' H10 n0 n1 S10 hc10 k10 => ?_⟩
          have gp10 := k10 _ _ gp9 npl
          refine ⟨_, rfl, n, p, ls, rfl, n0, n1, gp10, lls, hls, fun H11 s11 => ⟨_, rfl, iteF ?_⟩⟩
          exact hN _ _ ⟨ls, c', _, rfl, S10.same s11, by omega, s11 _ _ gp10, lls, hls⟩
        · obtain ⟨ls, c7, y4, rfl, S7, hc7, gp7, ll, hls⟩ := h
          have rls : Rpl ls := fun k h => by have := hls k h; omega
          have sqz : ∀ {ks : List Int} {n : Int}, (∀ k ∈ ks, 2 ≤ k) → 0 ≤ n → n ≤ 1 → sq n ks = n := fun {ks n} h n0 n1 => by
            induction ks with
            | nil => rfl
            | cons k r ih =>
              have h2 := h k List.mem_cons_self
              have e : once n k = n := by
                unfold once
                rw [Int.ediv_eq_zero_of_lt n0 (by omega), Int.emod_eq_of_lt n0 (by omega), Int.zero_add]
              show sq (once n k) r = n
              rw [e]
              exact ih fun x hx => h x (List.mem_cons_of_mem _ hx)
          refine ⟨_, rfl, 0, p, ls, rfl, SqL.of gp7, by decide, rls, fun H8 s8 => ?_⟩
          refine ⟨_, rfl, 1, p, ls, rfl, SqL.of (s8 _ _ gp7), by decide, rls, fun H9 s9 => ?_⟩
          refine ⟨w1, fun t1 ht1 => ⟨5, t1, [6], rfl, SqL.of upd_same, by decide, fun k h => by rw [List.mem_singleton.mp h]; decide, fun H10 s10 => ?_⟩⟩
          rw [sqz rls.two (by decide) (by decide), sqz rls.two (by decide) (by decide)]
          refine ⟨w3, fun t2 ht2 => ⟨w3, fun t3 ht3 => ?_⟩⟩
          have e5 : sq 5 [6] = 5 := by decide
          rw [e5]
          have g2 := same_new ht3 (o := .lst [V.int 0, V.int 1, V.int 5]) _ _ (upd_same (H := H10) (a := t2) (o := .lst [V.int 0, V.int 1, V.int 5]))
          refine ⟨.list ([0, 1, 5].map PyData.int), .list ([0, 1, 5].map PyData.int), .lst (SqL.of g2) (dp_ints [0, 1, 5]), .lst (SqL.of upd_same) (dp_ints [0, 1, 5]), shaped_ints _, shaped_ints _, _, rfl, ?_⟩
          rw [eqv_ints, decide_eq_true rfl]
          refine iteF ⟨c7, _, _, _, _, _, _, _, _, _, _, _, rfl, ?_, by omega⟩
          exact S7.same (((((s8.trans s9).trans (same_new ht1)).trans s10).trans (same_new ht2)).trans (same_new ht3))
    · rintro σ H2 ⟨cnt, y2, y3, y4, y5, y6, y7, y8, y9, y10, y11, y12, rfl, S2, hc2⟩
      have hc2' : cnt ≤ 4500 := by omega
      refine ⟨"2^60, 3^40", List.replicate 60 2 ++ List.replicate 40 3, rfl, by decide, small_dec (by decide +kernel), by decide +kernel, fun p H3 np s3 gp => ?_⟩
      obtain ⟨ks, eks⟩ : ∃ ks : List Int, ks = List.replicate 60 2 ++ List.replicate 40 3 := ⟨_, rfl⟩
      rw [← eks] at gp
      have lk : ks.length = 100 := by rw [eks]; rfl
      have rk : Rpl ks := fun k h => by
        rw [eks] at h
        rcases List.mem_append.mp h with h | h
        · rw [(List.mem_replicate.mp h).2]; decide
        · rw [(List.mem_replicate.mp h).2]; decide
      clear eks
      have S3 := S2.same s3
      have npl := S2.ne np
      refine ⟨10, 30, rfl, rfl, ⟨by decide, by decide, by decide⟩, _, 1, rfl, rfl, _, rfl, l, seed, cnt, 999, rfl, S3, by omega, by decide, by decide, fun z c1 H4 z0 z1 S4 hc4 k4 => ⟨_, z, rfl, rfl, ?_⟩⟩
      have gp4 := k4 _ _ gp npl
      obtain ⟨M, eM⟩ : ∃ M, M = (10 : Int) ^ (30 : Int).toNat - 1 - z := ⟨_, rfl⟩
      have hM : 0 ≤ M ∧ M < 10 ^ 30 := by
        have e30 : (10 : Int) ^ (30 : Int).toNat = 10 ^ 30 := by decide
        rw [eM, e30]
        omega
      refine ⟨w2, fun t1 ht1 => ⟨t1, [6, 3], 3, _, ⟨11, rfl, by decide, fun k h => ?_, rfl, rfl⟩, upd_same, ?_⟩⟩
      · simp only [List.mem_cons, List.not_mem_nil, or_false] at h
        rcases h with rfl | rfl <;> decide
      refine ⟨w2, fun t2 ht2 => ⟨t2, [2, 2], 3, _, ⟨9, rfl, by decide, fun k h => ?_, rfl, rfl⟩, upd_same, rfl, ?_⟩⟩
      · simp only [List.mem_cons, List.not_mem_nil, or_false] at h
        rcases h with rfl | rfl <;> decide
      have n12 : t1 ≠ t2 := fun z => by
        rw [← z, upd_same] at ht2
        cases ht2
      refine ⟨by rw [upd_ne n12]; exact upd_same, n12, fun b u e1 e2 => ?_, by decide, fun Dl rows H5 hD gD ra kp => ?_⟩
      · by_cases c : b = t2
        · rw [c, upd_same] at e2
          cases e2
          exact ⟨_, rfl⟩
        · rw [upd_ne c, e1] at e2
          cases e2
      have s45 : Same H4 H5 := fun b o e => kp b o (same_new ht2 _ _ (same_new ht1 _ _ e))
      have ep : prs (fun i => sq 11 (List.take i [6, 3])) (fun i => sq 9 (List.take i [2, 2])) 3 = [[11, 9], [6, 5], [2, 3]] := by decide
      rw [ep] at ra
      refine ⟨_, rfl, w2, fun u1 hu1 => ⟨w2, fun u2 hu2 => ⟨w2, fun u3 hu3 => ⟨w3, fun u4 hu4 => ?_⟩⟩⟩⟩
      obtain ⟨H6, eH6⟩ : ∃ H6, H6 = upd (upd (upd (upd H5 u1 (.lst ([11, 9].map V.int))) u2 (.lst ([6, 5].map V.int))) u3 (.lst ([2, 3].map V.int))) u4 (.lst ([u1, u2, u3].map V.ref)) := ⟨_, rfl⟩
      have s56 : Same H5 H6 := by
        rw [eH6]
        exact (((same_new hu1).trans (same_new hu2)).trans (same_new hu3)).trans (same_new hu4)
      have ru : RowsAt H6 [u1, u2, u3] [[11, 9], [6, 5], [2, 3]] := by
        rw [eH6]
        exact ⟨same_new hu4 _ _ (same_new hu3 _ _ (same_new hu2 _ _ upd_same)), same_new hu4 _ _ (same_new hu3 _ _ upd_same), same_new hu4 _ _ upd_same, trivial⟩
      have gu : H6 u4 = some (.lst ([u1, u2, u3].map V.ref)) := by rw [eH6]; exact upd_same
      refine ⟨.list (dRows [[11, 9], [6, 5], [2, 3]]), .list (dRows [[11, 9], [6, 5], [2, 3]]), .lst (SqL.of (by rw [eH6] at s56; exact s56 _ _ gD)) (dp_rows (by rw [eH6] at s56; exact ra.same s56)), .lst (SqL.of (by rw [eH6] at gu; exact gu)) (dp_rows (by rw [eH6] at ru; exact ru)), shaped_rows _, shaped_rows _, _, rfl, ?_⟩
      have eqr : PyData.eqv (.list (dRows [[11, 9], [6, 5], [2, 3]])) (.list (dRows [[11, 9], [6, 5], [2, 3]])) = true := by decide
      rw [eqr]
      refine iteF ?_
      have gp6 : H6 p = some (.lst (ks.map V.int)) := s56 _ _ (s45 _ _ gp4)
      refine tellNx (fun σ2 H' => ∃ (w : Addr) (y7 : Option V), σ2 = [some (.ref a), some (.ref l), y2, y3, y4, some (.ref p), some (.int M), y7, some (.ref w), y9, y10, y11, y12] ∧ H' p = some (.lst (ks.map V.int)) ∧ H' w = some (.lst ((stg M ks 101).map V.int))) (fun N hN => ?_) (fun σ2 H' h => ?_)
      · refine restate (σ' := [some (.ref a), some (.ref l), y2, y3, y4, some (.ref p), some (.int M), some (.ref Dl), y8, y9, y10, y11, y12]) (by rw [eM]; rfl) eH6.symm ?_
        refine ⟨_, rfl, _, rfl, M, p, ks, rfl, SqL.of gp6, hM.1, rk, by omega, fun H7 s7 w hw => ?_⟩
        rw [lk]
        exact hN _ _ ⟨w, _, rfl, same_new hw _ _ (s7 _ _ gp6), upd_same⟩
      · obtain ⟨w, y7', rfl, gp7, gw7⟩ := h
        clear eH6 s56 ru gu s45 ra kp gD
        refine ⟨_, rfl, _, rfl, w, p, _, _, rfl, SqL.of gw7, SqL.of gp7, fun D hD => walkI (walk_zip (K := K) (a := w) (b := p) (xs := (stg M ks 101).map V.int) (ys := ks.map V.int) (n := 100) (by rw [List.length_map, List.length_map, stg_len, lk]; rfl)) (fun i H8 => Same H' (wo H8 D) ∧ H8 D = some (.lst (((List.range i).map fun j => sq M (ks.take (j + 1))).map V.int))) ⟨by rw [wo_upd]; exact same_wo (Same.refl _) hD, upd_same⟩ (fun i H8 _ h => ⟨SqL.of (wo_same _ _ (h.1 _ _ gw7)), SqL.of (wo_same _ _ (h.1 _ _ gp7))⟩) ?_ ?_⟩
        · rintro i x H8 H9 hi ⟨s8, g8⟩ ⟨T, x1, x2, rfl, nT, rfl, e1, e2⟩
          obtain ⟨v1, ev1, rfl⟩ := map_at e1
          obtain ⟨k, ek, rfl⟩ := map_at e2
          have hm := rk k (List.mem_of_getElem? ek)
          have ev2 : v1 = sq M (ks.take i) := by
            unfold stg at ev1
            rw [List.getElem?_map, List.getElem?_range (by omega)] at ev1
            exact (Option.some.inj ev1).symm
          rw [ev2]
          have nTD : T ≠ D := fun z => by
            rw [z, g8] at nT
            cases nT
          refine ⟨T, _, rfl, .inl (.inl upd_same), rfl, _, _, rfl, _, _, rfl, rfl, rfl, ?_⟩
          refine ⟨_, rfl, _, rfl, _, k, rfl, hm.1, hm.2, _, by rw [upd_ne nTD.symm]; exact g8, by rw [List.length_map, List.length_map, List.length_range]; omega, ?_, ?_⟩
          · rw [wo_upd]
            intro b o e
            have s8' := s8 b o e
            have nbD : b ≠ D := fun z => by rw [z, wo_self] at s8'; cases s8'
            rw [wo_ne nbD] at s8' ⊢
            exact same_new nT _ _ s8'
          · rw [upd_same, List.range_succ, List.map_append, List.map_append]
            show some (HO.lst (_ ++ [V.int (once (sq M (ks.take i)) k)])) = some (HO.lst (_ ++ [V.int (sq M (ks.take (i + 1)))]))
            rw [List.take_add_one, ek]
            show _ = some (HO.lst (_ ++ [V.int (sq M (ks.take i ++ [k]))]))
            rw [sq_concat]
        · rintro H8 ⟨s8, g8⟩
          have gp8 := wo_same _ _ (s8 _ _ gp7)
          have gw8 := wo_same _ _ (s8 _ _ gw7)
          clear s8
          refine ⟨_, rfl, w, _, rfl, .inl (SqL.of gw8), rfl, _, rfl, ?_⟩
          have l101 : (!decide (V.int (((stg M ks 101).map V.int).length : Nat) = V.int 101)) = false := by
            rw [List.length_map, stg_len]
            rfl
          rw [l101]
          refine iteF ?_
          have c1 : ((stg M ks 101).map V.int).length = 101 := by rw [List.length_map, stg_len]
          refine ⟨_, rfl, _, rfl, 1, rfl, noPart ⟨w, _, rfl, SqL.of gw8, fun t ht => ?_⟩⟩
          have ecut : cutV ((stg M ks 101).map V.int) (some (1 : Int)) none = ((List.range 100).map fun j => sq M (ks.take (j + 1))).map V.int := by
            have e := cut_drop ((stg M ks 101).map V.int) 1 (by rw [c1]; decide)
            rw [show ((1 : Nat) : Int) = (1 : Int) from rfl] at e
            rw [e, ← List.map_drop]
            congr 1
          rw [ecut]
          refine ⟨_, _, .lst (SqL.of (same_new ht _ _ g8)) (dp_ints _), .lst (SqL.of upd_same) (dp_ints _), shaped_ints _, shaped_ints _, _, rfl, ?_⟩
          rw [eqv_ints, decide_eq_true rfl]
          refine iteF ?_
          have gp9 := same_new (o := .lst (((List.range 100).map fun j => sq M (ks.take (j + 1))).map V.int)) ht _ _ gp8
          refine ⟨_, rfl, _, rfl, M, p, ks, rfl, SqL.of gp9, hM.1, rk, fun H10 s10 => ?_⟩
          refine ⟨_, rfl, _, rfl, M, p, ks, rfl, SqL.of (s10 _ _ gp9), rk, rfl, ?_⟩
          refine ⟨_, rfl, ?_⟩
          rw [decide_eq_true rfl]
          refine iteT ⟨w3, fun t3 ht3 => ⟨20, t3, [6, 3, 2], rfl, SqL.of upd_same, by decide, fun k h => ?_, fun H11 s11 => ⟨rfl, ?_⟩⟩⟩
          · simp only [List.mem_cons, List.not_mem_nil, or_false] at h
            rcases h with rfl | rfl | rfl <;> decide
          · have e2 : sq 20 [6, 3, 2] = 2 := by decide
            rw [e2, decide_eq_true rfl]
            exact q _
end
end Sq
set_option Elab.async false
set_option linter.all false
set_option maxRecDepth 100000
set_option maxHeartbeats 4000000
namespace Sq
open PySem PySem.Spec PyProof.Rows L2
theorem all_mk {l : PySem.W.OpenLaw} {w : World} {K : PySem.W.Frag} {h : Heap} {mg : Str → Option Value} {fa : Addr} (X : K.In h) (G : h.Ns mainGlobals mg) (hfa : mg "law" = some (.ref fa))
    {f_checklist : Addr} {od_checklist an_checklist : Option Addr} {sl_checklist : Array (Option Value)} {oc_checklist kV_checklist dc_checklist pm_checklist cd_checklist ct_checklist : Value}
    (a_checklist : PySem.W.nsIn K mainGlobals "check_list" = some (some (.ref f_checklist)))
    (l_checklist : K.lookup f_checklist = some ⟨oc_checklist, od_checklist, .func (PySem.W.fnOf "check_list" "check_list" (defArgs s_checklist) (defBody s_checklist) (defScope s_checklist) .none kV_checklist dc_checklist pm_checklist an_checklist cd_checklist ct_checklist), sl_checklist⟩)
    (c_checklist : PySem.W.codeIn K cd_checklist "check_list" = true) (k_checklist : PySem.W.keepIn K (.ref f_checklist) = true)
    {f_checknumber : Addr} {od_checknumber an_checknumber : Option Addr} {sl_checknumber : Array (Option Value)} {oc_checknumber kV_checknumber dc_checknumber pm_checknumber cd_checknumber ct_checknumber : Value}
    (a_checknumber : PySem.W.nsIn K mainGlobals "check_number" = some (some (.ref f_checknumber)))
    (l_checknumber : K.lookup f_checknumber = some ⟨oc_checknumber, od_checknumber, .func (PySem.W.fnOf "check_number" "check_number" (defArgs s_checknumber) (defBody s_checknumber) (defScope s_checknumber) .none kV_checknumber dc_checknumber pm_checknumber an_checknumber cd_checknumber ct_checknumber), sl_checknumber⟩)
    (c_checknumber : PySem.W.codeIn K cd_checknumber "check_number" = true) (k_checknumber : PySem.W.keepIn K (.ref f_checknumber) = true)
    {f_squeezed : Addr} {od_squeezed an_squeezed : Option Addr} {sl_squeezed : Array (Option Value)} {oc_squeezed kV_squeezed dc_squeezed pm_squeezed cd_squeezed ct_squeezed : Value}
    (a_squeezed : PySem.W.nsIn K mainGlobals "squeezed" = some (some (.ref f_squeezed)))
    (l_squeezed : K.lookup f_squeezed = some ⟨oc_squeezed, od_squeezed, .func (PySem.W.fnOf "squeezed" "squeezed" (defArgs s_squeezed) (defBody s_squeezed) (defScope s_squeezed) .none kV_squeezed dc_squeezed pm_squeezed an_squeezed cd_squeezed ct_squeezed), sl_squeezed⟩)
    (c_squeezed : PySem.W.codeIn K cd_squeezed "squeezed" = true) (k_squeezed : PySem.W.keepIn K (.ref f_squeezed) = true)
    {f_stages : Addr} {od_stages an_stages : Option Addr} {sl_stages : Array (Option Value)} {oc_stages kV_stages dc_stages pm_stages cd_stages ct_stages : Value}
    (a_stages : PySem.W.nsIn K mainGlobals "stages" = some (some (.ref f_stages)))
    (l_stages : K.lookup f_stages = some ⟨oc_stages, od_stages, .func (PySem.W.fnOf "stages" "stages" (defArgs s_stages) (defBody s_stages) (defScope s_stages) .none kV_stages dc_stages pm_stages an_stages cd_stages ct_stages), sl_stages⟩)
    (c_stages : PySem.W.codeIn K cd_stages "stages" = true) (k_stages : PySem.W.keepIn K (.ref f_stages) = true)
    {f_lengthafter : Addr} {od_lengthafter an_lengthafter : Option Addr} {sl_lengthafter : Array (Option Value)} {oc_lengthafter kV_lengthafter dc_lengthafter pm_lengthafter cd_lengthafter ct_lengthafter : Value}
    (a_lengthafter : PySem.W.nsIn K mainGlobals "length_after" = some (some (.ref f_lengthafter)))
    (l_lengthafter : K.lookup f_lengthafter = some ⟨oc_lengthafter, od_lengthafter, .func (PySem.W.fnOf "length_after" "length_after" (defArgs s_lengthafter) (defBody s_lengthafter) (defScope s_lengthafter) .none kV_lengthafter dc_lengthafter pm_lengthafter an_lengthafter cd_lengthafter ct_lengthafter), sl_lengthafter⟩)
    (c_lengthafter : PySem.W.codeIn K cd_lengthafter "length_after" = true) (k_lengthafter : PySem.W.keepIn K (.ref f_lengthafter) = true)
    {f_lengthafterone : Addr} {od_lengthafterone an_lengthafterone : Option Addr} {sl_lengthafterone : Array (Option Value)} {oc_lengthafterone kV_lengthafterone dc_lengthafterone pm_lengthafterone cd_lengthafterone ct_lengthafterone : Value}
    (a_lengthafterone : PySem.W.nsIn K mainGlobals "length_after_one" = some (some (.ref f_lengthafterone)))
    (l_lengthafterone : K.lookup f_lengthafterone = some ⟨oc_lengthafterone, od_lengthafterone, .func (PySem.W.fnOf "length_after_one" "length_after_one" (defArgs s_lengthafterone) (defBody s_lengthafterone) (defScope s_lengthafterone) .none kV_lengthafterone dc_lengthafterone pm_lengthafterone an_lengthafterone cd_lengthafterone ct_lengthafterone), sl_lengthafterone⟩)
    (c_lengthafterone : PySem.W.codeIn K cd_lengthafterone "length_after_one" = true) (k_lengthafterone : PySem.W.keepIn K (.ref f_lengthafterone) = true)
    {f_readlist : Addr} {od_readlist an_readlist : Option Addr} {sl_readlist : Array (Option Value)} {oc_readlist kV_readlist dc_readlist pm_readlist cd_readlist ct_readlist : Value}
    (a_readlist : PySem.W.nsIn K mainGlobals "read_list" = some (some (.ref f_readlist)))
    (l_readlist : K.lookup f_readlist = some ⟨oc_readlist, od_readlist, .func (PySem.W.fnOf "read_list" "read_list" (defArgs s_readlist) (defBody s_readlist) (defScope s_readlist) .none kV_readlist dc_readlist pm_readlist an_readlist cd_readlist ct_readlist), sl_readlist⟩)
    (c_readlist : PySem.W.codeIn K cd_readlist "read_list" = true) (k_readlist : PySem.W.keepIn K (.ref f_readlist) = true)
    {f_isnumber : Addr} {od_isnumber an_isnumber : Option Addr} {sl_isnumber : Array (Option Value)} {oc_isnumber kV_isnumber dc_isnumber pm_isnumber cd_isnumber ct_isnumber : Value}
    (a_isnumber : PySem.W.nsIn K mainGlobals "is_number" = some (some (.ref f_isnumber)))
    (l_isnumber : K.lookup f_isnumber = some ⟨oc_isnumber, od_isnumber, .func (PySem.W.fnOf "is_number" "is_number" (defArgs s_isnumber) (defBody s_isnumber) (defScope s_isnumber) .none kV_isnumber dc_isnumber pm_isnumber an_isnumber cd_isnumber ct_isnumber), sl_isnumber⟩)
    (c_isnumber : PySem.W.codeIn K cd_isnumber "is_number" = true) (k_isnumber : PySem.W.keepIn K (.ref f_isnumber) = true)
    {f_lawrng : Addr} {od_lawrng an_lawrng : Option Addr} {sl_lawrng : Array (Option Value)} {oc_lawrng kV_lawrng dc_lawrng pm_lawrng cd_lawrng ct_lawrng : Value}
    (a_lawrng : PySem.W.nsIn K mainGlobals "_law_rng" = some (some (.ref f_lawrng)))
    (l_lawrng : K.lookup f_lawrng = some ⟨oc_lawrng, od_lawrng, .func (PySem.W.fnOf "_law_rng" "_law_rng" (defArgs s_lawrng) (defBody s_lawrng) (defScope s_lawrng) .none kV_lawrng dc_lawrng pm_lawrng an_lawrng cd_lawrng ct_lawrng), sl_lawrng⟩)
    (c_lawrng : PySem.W.codeIn K cd_lawrng "_law_rng" = true) (k_lawrng : PySem.W.keepIn K (.ref f_lawrng) = true)
    {f_lawdraw : Addr} {od_lawdraw an_lawdraw : Option Addr} {sl_lawdraw : Array (Option Value)} {oc_lawdraw kV_lawdraw dc_lawdraw pm_lawdraw cd_lawdraw ct_lawdraw : Value}
    (a_lawdraw : PySem.W.nsIn K mainGlobals "_law_draw" = some (some (.ref f_lawdraw)))
    (l_lawdraw : K.lookup f_lawdraw = some ⟨oc_lawdraw, od_lawdraw, .func (PySem.W.fnOf "_law_draw" "_law_draw" (defArgs s_lawdraw) (defBody s_lawdraw) (defScope s_lawdraw) .none kV_lawdraw dc_lawdraw pm_lawdraw an_lawdraw cd_lawdraw ct_lawdraw), sl_lawdraw⟩)
    (c_lawdraw : PySem.W.codeIn K cd_lawdraw "_law_draw" = true) (k_lawdraw : PySem.W.keepIn K (.ref f_lawdraw) = true)
    {f_lawlist : Addr} {od_lawlist an_lawlist : Option Addr} {sl_lawlist : Array (Option Value)} {oc_lawlist kV_lawlist dc_lawlist pm_lawlist cd_lawlist ct_lawlist : Value}
    (a_lawlist : PySem.W.nsIn K mainGlobals "_law_list" = some (some (.ref f_lawlist)))
    (l_lawlist : K.lookup f_lawlist = some ⟨oc_lawlist, od_lawlist, .func (PySem.W.fnOf "_law_list" "_law_list" (defArgs s_lawlist) (defBody s_lawlist) (defScope s_lawlist) .none kV_lawlist dc_lawlist pm_lawlist an_lawlist cd_lawlist ct_lawlist), sl_lawlist⟩)
    (c_lawlist : PySem.W.codeIn K cd_lawlist "_law_list" = true) (k_lawlist : PySem.W.keepIn K (.ref f_lawlist) = true)
    {f_lawonce : Addr} {od_lawonce an_lawonce : Option Addr} {sl_lawonce : Array (Option Value)} {oc_lawonce kV_lawonce dc_lawonce pm_lawonce cd_lawonce ct_lawonce : Value}
    (a_lawonce : PySem.W.nsIn K mainGlobals "_law_once" = some (some (.ref f_lawonce)))
    (l_lawonce : K.lookup f_lawonce = some ⟨oc_lawonce, od_lawonce, .func (PySem.W.fnOf "_law_once" "_law_once" (defArgs s_lawonce) (defBody s_lawonce) (defScope s_lawonce) .none kV_lawonce dc_lawonce pm_lawonce an_lawonce cd_lawonce ct_lawonce), sl_lawonce⟩)
    (c_lawonce : PySem.W.codeIn K cd_lawonce "_law_once" = true) (k_lawonce : PySem.W.keepIn K (.ref f_lawonce) = true)
    {f_lawafter : Addr} {od_lawafter an_lawafter : Option Addr} {sl_lawafter : Array (Option Value)} {oc_lawafter kV_lawafter dc_lawafter pm_lawafter cd_lawafter ct_lawafter : Value}
    (a_lawafter : PySem.W.nsIn K mainGlobals "_law_after" = some (some (.ref f_lawafter)))
    (l_lawafter : K.lookup f_lawafter = some ⟨oc_lawafter, od_lawafter, .func (PySem.W.fnOf "_law_after" "_law_after" (defArgs s_lawafter) (defBody s_lawafter) (defScope s_lawafter) .none kV_lawafter dc_lawafter pm_lawafter an_lawafter cd_lawafter ct_lawafter), sl_lawafter⟩)
    (c_lawafter : PySem.W.codeIn K cd_lawafter "_law_after" = true) (k_lawafter : PySem.W.keepIn K (.ref f_lawafter) = true)
    {f_lawmany : Addr} {od_lawmany an_lawmany : Option Addr} {sl_lawmany : Array (Option Value)} {oc_lawmany kV_lawmany dc_lawmany pm_lawmany cd_lawmany ct_lawmany : Value}
    (a_lawmany : PySem.W.nsIn K mainGlobals "_law_many" = some (some (.ref f_lawmany)))
    (l_lawmany : K.lookup f_lawmany = some ⟨oc_lawmany, od_lawmany, .func (PySem.W.fnOf "_law_many" "_law_many" (defArgs s_lawmany) (defBody s_lawmany) (defScope s_lawmany) .none kV_lawmany dc_lawmany pm_lawmany an_lawmany cd_lawmany ct_lawmany), sl_lawmany⟩)
    (c_lawmany : PySem.W.codeIn K cd_lawmany "_law_many" = true) (k_lawmany : PySem.W.keepIn K (.ref f_lawmany) = true)
    {f_lawright : Addr} {od_lawright an_lawright : Option Addr} {sl_lawright : Array (Option Value)} {oc_lawright kV_lawright dc_lawright pm_lawright cd_lawright ct_lawright : Value}
    (a_lawright : PySem.W.nsIn K mainGlobals "_law_right" = some (some (.ref f_lawright)))
    (l_lawright : K.lookup f_lawright = some ⟨oc_lawright, od_lawright, .func (PySem.W.fnOf "_law_right" "_law_right" (defArgs s_lawright) (defBody s_lawright) (defScope s_lawright) .none kV_lawright dc_lawright pm_lawright an_lawright cd_lawright ct_lawright), sl_lawright⟩)
    (c_lawright : PySem.W.codeIn K cd_lawright "_law_right" = true) (k_lawright : PySem.W.keepIn K (.ref f_lawright) = true)
    {f_law : Addr} {od_law an_law : Option Addr} {sl_law : Array (Option Value)} {oc_law kV_law dc_law pm_law cd_law ct_law : Value}
    (a_law : PySem.W.nsIn K mainGlobals "law" = some (some (.ref f_law)))
    (l_law : K.lookup f_law = some ⟨oc_law, od_law, .func (PySem.W.fnOf "law" "law" (defArgs s_law) (defBody s_law) (defScope s_law) .none kV_law dc_law pm_law an_law cd_law ct_law), sl_law⟩)
    (c_law : PySem.W.codeIn K cd_law "law" = true) (k_law : PySem.W.keepIn K (.ref f_law) = true)
    (z_len : PySem.W.nsIn K mainGlobals "len" = some none)
    (z_min : PySem.W.nsIn K mainGlobals "min" = some none)
    (z_max : PySem.W.nsIn K mainGlobals "max" = some none)
    (z_abs : PySem.W.nsIn K mainGlobals "abs" = some none)
    (z_range : PySem.W.nsIn K mainGlobals "range" = some none)
    (z_isinstance : PySem.W.nsIn K mainGlobals "isinstance" = some none)
    (z_repr : PySem.W.nsIn K mainGlobals "repr" = some none)
    (z_enumerate : PySem.W.nsIn K mainGlobals "enumerate" = some none)
    (z_reversed : PySem.W.nsIn K mainGlobals "reversed" = some none)
    (z_sorted : PySem.W.nsIn K mainGlobals "sorted" = some none)
    (z_bool : PySem.W.nsIn K mainGlobals "bool" = some none)
    (z_int : PySem.W.nsIn K mainGlobals "int" = some none)
    (z_str : PySem.W.nsIn K mainGlobals "str" = some none)
    (z_list : PySem.W.nsIn K mainGlobals "list" = some none)
    (z_tuple : PySem.W.nsIn K mainGlobals "tuple" = some none)
    (z_set : PySem.W.nsIn K mainGlobals "set" = some none)
    (z_sum : PySem.W.nsIn K mainGlobals "sum" = some none)
    (z_zip : PySem.W.nsIn K mainGlobals "zip" = some none)
    (z_all : PySem.W.nsIn K mainGlobals "all" = some none)
    (z_any : PySem.W.nsIn K mainGlobals "any" = some none)
    (z_ValueError : PySem.W.nsIn K mainGlobals "ValueError" = some none)
    (z_divmod : PySem.W.nsIn K mainGlobals "divmod" = some none)
    {tkaMD : Tok} (aMD : PySem.W.nsIn K mainGlobals "MOST_DIGITS" = some (some (.int 200 tkaMD)))
    : ∃ fd : FuncData, (∀ (s : Shared) (v : Value), BindsTo s fd ⟨[v], []⟩ [("script", v)]) ∧ ∀ base : Heap, K.In base → base.Ns mainGlobals mg → Top l.prog w K mg base 8 fa fd "script" (spLaw K) := by
  have e := hfa.symm.trans (PySem.W.mg_of X G a_law)
  cases e
  have B : Bi mg := ⟨PySem.W.mg_none_of X G z_len, PySem.W.mg_none_of X G z_min, PySem.W.mg_none_of X G z_max, PySem.W.mg_none_of X G z_abs, PySem.W.mg_none_of X G z_range, PySem.W.mg_none_of X G z_isinstance, PySem.W.mg_none_of X G z_repr, PySem.W.mg_none_of X G z_enumerate, PySem.W.mg_none_of X G z_reversed, PySem.W.mg_none_of X G z_sorted, PySem.W.mg_none_of X G z_bool, PySem.W.mg_none_of X G z_int, PySem.W.mg_none_of X G z_str, PySem.W.mg_none_of X G z_list, PySem.W.mg_none_of X G z_tuple, PySem.W.mg_none_of X G z_set, PySem.W.mg_none_of X G z_sum, PySem.W.mg_none_of X G z_zip, PySem.W.mg_none_of X G z_all, PySem.W.mg_none_of X G z_any, PySem.W.mg_none_of X G z_ValueError, PySem.W.mg_none_of X G z_divmod⟩
  have F_checklist := fun_mk (st := s_checklist) l_checklist c_checklist k_checklist
  have b_checklist := F_checklist.binds (ps := ["replacements"]) fun _ _ _ _ _ _ us hl => match us, hl with | [_], _ => rfl
  have g_checklist := PySem.W.mg_of X G a_checklist
  have F_checknumber := fun_mk (st := s_checknumber) l_checknumber c_checknumber k_checknumber
  have b_checknumber := F_checknumber.binds (ps := ["number", "least"]) fun _ _ _ _ _ _ us hl => match us, hl with | [_, _], _ => rfl
  have g_checknumber := PySem.W.mg_of X G a_checknumber
  have F_squeezed := fun_mk (st := s_squeezed) l_squeezed c_squeezed k_squeezed
  have b_squeezed := F_squeezed.binds (ps := ["length", "replacements"]) fun _ _ _ _ _ _ us hl => match us, hl with | [_, _], _ => rfl
  have g_squeezed := PySem.W.mg_of X G a_squeezed
  have F_stages := fun_mk (st := s_stages) l_stages c_stages k_stages
  have b_stages := F_stages.binds (ps := ["length", "replacements"]) fun _ _ _ _ _ _ us hl => match us, hl with | [_, _], _ => rfl
  have g_stages := PySem.W.mg_of X G a_stages
  have F_lengthafter := fun_mk (st := s_lengthafter) l_lengthafter c_lengthafter k_lengthafter
  have b_lengthafter := F_lengthafter.binds (ps := ["length", "replacements"]) fun _ _ _ _ _ _ us hl => match us, hl with | [_, _], _ => rfl
  have g_lengthafter := PySem.W.mg_of X G a_lengthafter
  have F_lengthafterone := fun_mk (st := s_lengthafterone) l_lengthafterone c_lengthafterone k_lengthafterone
  have b_lengthafterone := F_lengthafterone.binds (ps := ["length", "number"]) fun _ _ _ _ _ _ us hl => match us, hl with | [_, _], _ => rfl
  have g_lengthafterone := PySem.W.mg_of X G a_lengthafterone
  have F_readlist := fun_mk (st := s_readlist) l_readlist c_readlist k_readlist
  have b_readlist := F_readlist.binds (ps := ["text"]) fun _ _ _ _ _ _ us hl => match us, hl with | [_], _ => rfl
  have g_readlist := PySem.W.mg_of X G a_readlist
  have F_isnumber := fun_mk (st := s_isnumber) l_isnumber c_isnumber k_isnumber
  have b_isnumber := F_isnumber.binds (ps := ["digits"]) fun _ _ _ _ _ _ us hl => match us, hl with | [_], _ => rfl
  have g_isnumber := PySem.W.mg_of X G a_isnumber
  have F_lawrng := fun_mk (st := s_lawrng) l_lawrng c_lawrng k_lawrng
  have b_lawrng := F_lawrng.binds (ps := ["script"]) fun _ _ _ _ _ _ us hl => match us, hl with | [_], _ => rfl
  have g_lawrng := PySem.W.mg_of X G a_lawrng
  have F_lawdraw := fun_mk (st := s_lawdraw) l_lawdraw c_lawdraw k_lawdraw
  have b_lawdraw := F_lawdraw.binds (ps := ["rng", "limit"]) fun _ _ _ _ _ _ us hl => match us, hl with | [_, _], _ => rfl
  have g_lawdraw := PySem.W.mg_of X G a_lawdraw
  have F_lawlist := fun_mk (st := s_lawlist) l_lawlist c_lawlist k_lawlist
  have b_lawlist := F_lawlist.binds (ps := ["rng", "most", "greatest"]) fun _ _ _ _ _ _ us hl => match us, hl with | [_, _, _], _ => rfl
  have g_lawlist := PySem.W.mg_of X G a_lawlist
  have F_lawonce := fun_mk (st := s_lawonce) l_lawonce c_lawonce k_lawonce
  have b_lawonce := F_lawonce.binds (ps := ["many", "number"]) fun _ _ _ _ _ _ us hl => match us, hl with | [_, _], _ => rfl
  have g_lawonce := PySem.W.mg_of X G a_lawonce
  have F_lawafter := fun_mk (st := s_lawafter) l_lawafter c_lawafter k_lawafter
  have b_lawafter := F_lawafter.binds (ps := ["many", "some"]) fun _ _ _ _ _ _ us hl => match us, hl with | [_, _], _ => rfl
  have g_lawafter := PySem.W.mg_of X G a_lawafter
  have F_lawmany := fun_mk (st := s_lawmany) l_lawmany c_lawmany k_lawmany
  have b_lawmany := F_lawmany.binds (ps := ["rng", "some"]) fun _ _ _ _ _ _ us hl => match us, hl with | [_, _], _ => rfl
  have g_lawmany := PySem.W.mg_of X G a_lawmany
  have F_lawright := fun_mk (st := s_lawright) l_lawright c_lawright k_lawright
  have b_lawright := F_lawright.binds (ps := ["many", "some"]) fun _ _ _ _ _ _ us hl => match us, hl with | [_, _], _ => rfl
  have g_lawright := PySem.W.mg_of X G a_lawright
  have F_law := fun_mk (st := s_law) l_law c_law k_law
  exact ⟨_, fun s v => .of_eq rfl, fun base _ _ => by
    have D_checklist : Df l.prog w K mg base 1 "check_list" ["replacements"] (spCheckList K) := .mk' F_checklist (ok_checklist F_checklist B) g_checklist b_checklist
    have D_checknumber : Df l.prog w K mg base 1 "check_number" ["number", "least"] spCheckNumber := .mk' F_checknumber (ok_checknumber F_checknumber) g_checknumber b_checknumber
    have D_lengthafterone : Df l.prog w K mg base 1 "length_after_one" ["length", "number"] spOnceS := .mk' F_lengthafterone (ok_lengthafterone F_lengthafterone B) g_lengthafterone b_lengthafterone
    have D_lengthafter : Df l.prog w K mg base 2 "length_after" ["length", "replacements"] (spSqzS K) := .mk' F_lengthafter (ok_lengthafter F_lengthafter D_lengthafterone) g_lengthafter b_lengthafter
    have Y_squeezed := ok_squeezed (P := l.prog) (w := w) (mg := mg) (base := base) F_squeezed D_checknumber D_checklist D_lengthafter
    have D_squeezed : Df l.prog w K mg base 3 "squeezed" ["length", "replacements"] (spSqueezed K) := .mk' F_squeezed Y_squeezed g_squeezed b_squeezed
    have K_squeezed : Dk l.prog w K mg base 3 "squeezed" ["length", "replacements"] ["replacements", "length"] (fun _ zs => zs.reverse) (spSqueezed K) := ⟨f_squeezed, _, _, Y_squeezed, g_squeezed, k_squeezed, kb_squeezed F_squeezed⟩
    have Y_stages := ok_stages (P := l.prog) (w := w) (mg := mg) (base := base) F_stages D_checknumber D_checklist D_lengthafterone
    have G_stages : Dg l.prog w K mg base 3 "stages" ["length", "replacements"] (spStages K) := ⟨⟨_, _, Y_stages, g_stages, k_stages, b_stages⟩⟩
    have GK_stages : Dgk l.prog w K mg base 3 "stages" ["length", "replacements"] ["replacements", "length"] (fun _ ws => ws.reverse) (fun _ zs => zs.reverse) (spStages K) := ⟨⟨_, _, Y_stages, g_stages, k_stages, kb_stages F_stages⟩⟩
    have Q_checknumber : Dq l.prog w K mg base 1 "check_number" ["number", "least"] spCheckNumber := ⟨⟨_, _, ok_checknumberQ F_checknumber, g_checknumber, k_checknumber, b_checknumber⟩⟩
    have Q_checklist : Dq l.prog w K mg base 1 "check_list" ["replacements"] (spCheckList K) := ⟨⟨_, _, ok_checklistQ F_checklist B, g_checklist, k_checklist, b_checklist⟩⟩
    have Q_lengthafterone : Dq l.prog w K mg base 1 "length_after_one" ["length", "number"] spOnceS := ⟨⟨_, _, ok_lengthafteroneQ F_lengthafterone B, g_lengthafterone, k_lengthafterone, b_lengthafterone⟩⟩
    have X_stages := ok_stagesX (P := l.prog) (w := w) (mg := mg) (base := base) F_stages Q_checknumber Q_checklist Q_lengthafterone
    have D_isnumber : Df l.prog w K mg base 1 "is_number" ["digits"] spIsNum := .mk' F_isnumber (ok_isnumber F_isnumber B (PySem.W.mg_of X G aMD)) g_isnumber b_isnumber
    have D_readlist : Df l.prog w K mg base 2 "read_list" ["text"] spReadT := .mk' F_readlist (ok_readlist F_readlist B D_isnumber) g_readlist b_readlist
    have D_lawrng : Df l.prog w K mg base 1 "_law_rng" ["script"] (spRng K) := .mk' F_lawrng (ok_lawrng F_lawrng B) g_lawrng b_lawrng
    have D_lawdraw : Df l.prog w K mg base 1 "_law_draw" ["rng", "limit"] spDraw := .mk' F_lawdraw (ok_lawdraw F_lawdraw) g_lawdraw b_lawdraw
    have D_lawlist : Df l.prog w K mg base 2 "_law_list" ["rng", "most", "greatest"] spList := .mk' F_lawlist (ok_lawlist F_lawlist B D_lawdraw) g_lawlist b_lawlist
    have D_lawonce : Df l.prog w K mg base 1 "_law_once" ["many", "number"] spOnce := .mk' F_lawonce (ok_lawonce F_lawonce) g_lawonce b_lawonce
    have D_lawafter : Df l.prog w K mg base 2 "_law_after" ["many", "some"] (spAfter K) := .mk' F_lawafter (ok_lawafter F_lawafter D_lawonce) g_lawafter b_lawafter
    have D_lawmany : Df l.prog w K mg base 2 "_law_many" ["rng", "some"] (spMany K) := .mk' F_lawmany (ok_lawmany F_lawmany B D_lawdraw) g_lawmany b_lawmany
    have D_lawright : Dgr l.prog w K mg base 7 "_law_right" ["many", "some"] spRight := .mk' F_lawright (ok_lawright F_lawright B D_lawonce D_squeezed K_squeezed G_stages GK_stages) g_lawright b_lawright
    exact ok_law F_law B D_lawrng D_lawdraw D_lawlist D_lawmany D_lawright D_squeezed D_readlist D_lawonce D_lawafter G_stages X_stages g_stages k_stages b_stages⟩
end Sq
open PySem PySem.W PyProof.Rows
set_option maxRecDepth 100000 in
set_option maxHeartbeats 0 in
theorem PySem.Challenge.cw_squeezelists_k02_lengths_of_runs_holds : PySem.Challenge.rw_squeezelists_k02_lengths_of_runs.Holds := by
  w_on; o_law; k_head; (case hw => w_witness2)
  k_fill
  refine Sq.walkAt (l := PySem.Challenge.rw_squeezelists_k02_lengths_of_runs) (n := 63) (k := 8) (x := "script") (sp := fun w => Sq.spLaw _) rfl (by decide) rfl (fun w h Y => PySem.W.kIn_of Y) ?F (fun _ _ a ns hl _ hS => ⟨a, ns, rfl, hS, hl, fun _ => rfl⟩)
  case F =>
    intro w mg fa h KX G hmg
    refine' Sq.all_mk KX G hmg ?a_checklist ?l_checklist ?c_checklist ?k_checklist ?a_checknumber ?l_checknumber ?c_checknumber ?k_checknumber ?a_squeezed ?l_squeezed ?c_squeezed ?k_squeezed ?a_stages ?l_stages ?c_stages ?k_stages ?a_lengthafter ?l_lengthafter ?c_lengthafter ?k_lengthafter ?a_lengthafterone ?l_lengthafterone ?c_lengthafterone ?k_lengthafterone ?a_readlist ?l_readlist ?c_readlist ?k_readlist ?a_isnumber ?l_isnumber ?c_isnumber ?k_isnumber ?a_lawrng ?l_lawrng ?c_lawrng ?k_lawrng ?a_lawdraw ?l_lawdraw ?c_lawdraw ?k_lawdraw ?a_lawlist ?l_lawlist ?c_lawlist ?k_lawlist ?a_lawonce ?l_lawonce ?c_lawonce ?k_lawonce ?a_lawafter ?l_lawafter ?c_lawafter ?k_lawafter ?a_lawmany ?l_lawmany ?c_lawmany ?k_lawmany ?a_lawright ?l_lawright ?c_lawright ?k_lawright ?a_law ?l_law ?c_law ?k_law ?z_len ?z_min ?z_max ?z_abs ?z_range ?z_isinstance ?z_repr ?z_enumerate ?z_reversed ?z_sorted ?z_bool ?z_int ?z_str ?z_list ?z_tuple ?z_set ?z_sum ?z_zip ?z_all ?z_any ?z_ValueError ?z_divmod ?aMD
    (case a_checklist => k_is); (case l_checklist => k_is); (case c_checklist => k_is); (case k_checklist => k_is); (case a_checknumber => k_is); (case l_checknumber => k_is); (case c_checknumber => k_is); (case k_checknumber => k_is); (case a_squeezed => k_is); (case l_squeezed => k_is); (case c_squeezed => k_is); (case k_squeezed => k_is); (case a_stages => k_is); (case l_stages => k_is); (case c_stages => k_is); (case k_stages => k_is); (case a_lengthafter => k_is); (case l_lengthafter => k_is); (case c_lengthafter => k_is); (case k_lengthafter => k_is); (case a_lengthafterone => k_is); (case l_lengthafterone => k_is); (case c_lengthafterone => k_is); (case k_lengthafterone => k_is); (case a_readlist => k_is); (case l_readlist => k_is); (case c_readlist => k_is); (case k_readlist => k_is); (case a_isnumber => k_is); (case l_isnumber => k_is); (case c_isnumber => k_is); (case k_isnumber => k_is); (case a_lawrng => k_is); (case l_lawrng => k_is); (case c_lawrng => k_is); (case k_lawrng => k_is); (case a_lawdraw => k_is); (case l_lawdraw => k_is); (case c_lawdraw => k_is); (case k_lawdraw => k_is); (case a_lawlist => k_is); (case l_lawlist => k_is); (case c_lawlist => k_is); (case k_lawlist => k_is); (case a_lawonce => k_is); (case l_lawonce => k_is); (case c_lawonce => k_is); (case k_lawonce => k_is); (case a_lawafter => k_is); (case l_lawafter => k_is); (case c_lawafter => k_is); (case k_lawafter => k_is); (case a_lawmany => k_is); (case l_lawmany => k_is); (case c_lawmany => k_is); (case k_lawmany => k_is); (case a_lawright => k_is); (case l_lawright => k_is); (case c_lawright => k_is); (case k_lawright => k_is); (case a_law => k_is); (case l_law => k_is); (case c_law => k_is); (case k_law => k_is); (case z_len => k_is); (case z_min => k_is); (case z_max => k_is); (case z_abs => k_is); (case z_range => k_is); (case z_isinstance => k_is); (case z_repr => k_is); (case z_enumerate => k_is); (case z_reversed => k_is); (case z_sorted => k_is); (case z_bool => k_is); (case z_int => k_is); (case z_str => k_is); (case z_list => k_is); (case z_tuple => k_is); (case z_set => k_is); (case z_sum => k_is); (case z_zip => k_is); (case z_all => k_is); (case z_any => k_is); (case z_ValueError => k_is); (case z_divmod => k_is); (case aMD => k_is)
