import PyProof.Rows.All
import Wide.All
import OpenK.AllK
import Wide.FinOn
import HandS.ForMost
import HandS.IsInst
import HandS.Walk
import HandS.Defaults
import HandS.RaiseMore
import HandS.Wide
import HandS.Exc
import HandS.ExcOwn
import HandS.ExcInit
import HandS.ExcSuper
import KE.KExcSuper
import HandS.ExcValue
import HandS.ExcIs
import HandS.ExcField
import HandS.GenList
import HandS.WordsExc
import HandS.HotCalls
import HandS.Comp
import HandS.Deep
import HandS.Strs
import HandS.SetBool
import HandS.GenBody
import HandS.GenYield
import PyProof.GenComp
import PyProof.ForAny
import HandS.Iter
import HandS.Property
import HandS.MakeKw
import HandS.MakeKwOnly
import PyProof.FactsSeq
import HandS.SuiteRaise
import HandS.Replace
import HandS.GenOver
import HandS.Words
import HandS.WideBits
import HandS.Zip0
import HandS.Zip
import HandS.SortInts
import PyProof.LongRange
import KE.DataCmp
import HandS.Style
import HandS.More
import HandS.Conv
import HandS.DictComp
import PySem.Challenge.RW_squeezelists_k09_origins_listed
set_option Elab.async false
set_option linter.all false
set_option maxRecDepth 100000
set_option maxHeartbeats 2000000
/-! The layer for the laws: a def of the law run at the outermost call (where no repr is under way), repr of data, calls by keywords alone. -/
namespace Sq
open PySem PySem.Spec PyProof.Rows L2
/-! ### the law's own def, at one given surrounding -/
theorem fnAt {CX : CXT} {P : Program} {w : World} {K : PySem.W.Frag} {mg : Str → Option Value} {base : Heap} {k : Nat} {f : Addr} {nmF qualF : Str} {prm : Arguments} {bd : List Stmt} {scp : Scope}
    {dflt kwd docv pmv cdv ctv ocv : Value} {anv odv : Option Addr} {slv : Array (Option Value)} {names prs : List Str} {sp : Sp} {A : Around}
    (stands : K.lookup f = some ⟨ocv, odv, .func (PySem.W.fnOf nmF qualF prm bd scp dflt kwd docv pmv anv cdv ctv), slv⟩)
    (code : PySem.W.codeIn K cdv qualF = true) (sc : FnScope names prs scp)
    (count : ∀ vs H Q E, sp vs H Q E → vs.length = prs.length)
    (inner : ∀ (outer : List Env) (s : Shared) (H : Hp) (vs : List V) (Q : VK) (E : XK), Room k (A.deeper (envOfC qualF scp s.heap.objs.size f cdv)) → sp vs H Q E →
      ∃ t, PSs (cxOf CX P w K mg base names qualF scp f cdv A outer s H E) bd t ∧ t { nx := fun _ H' => Q .non H', rt := Q } (start names vs) H)
    {outer : List Env} {s : Shared} {H : Hp} {ag : Args} {us : List Value} {vs : List V} {Q : VK} {E : XK}
    (room : Room (k + 1) A) (entry : Env0 P w K mg base A outer s H)
    (bound : BindsTo s (PySem.W.fnOf nmF qualF prm bd scp dflt kwd docv pmv anv cdv ctv) ag (prs.zip us)) (rel : Vals vs us) (wish : sp vs H Q E) :
    codeAny (model P w) A (.call (.ref f) ag) (CR CX outer P w H s Q E) s := by
  have written : K.In s.heap := entry.mod.kin.keeps (fun b o e => (entry.bs b o e).1)
  have roomy : s.heap.NoLimit := entry.mod.nolimit.keeps (fun b o e => (entry.bs b o e).1)
  refine codeAny_call_function room.depth (written _ _ stands) rfl sc.co sc.gen rfl (PySem.W.codeRec_of written code) (bound _ _ _ _ ?_)
  refine wpAny_newFunctionEnv_cells sc.kind ?kinds ?body
  case kinds =>
    rintro ⟨n, v⟩ hn
    have inP := (List.of_mem_zip hn).1
    cases sc.par n inP with
    | inl q => exact Or.inl q
    | inr q => exact Or.inr ⟨q, PySem.W.cellsFrom_some _ _ _ (Or.inl q)⟩
  case body =>
    intro env eqn s1 fresh
    subst eqn
    refine ⟨roomy.keeps fresh.toInCall.keep, codeAny_func ?_⟩
    obtain ⟨t, steps, holds⟩ := inner outer s H vs Q E (room.deeper _) wish
    have inv := inv_start (CX := CX) (mg := mg) (base := base) (E := E) sc room.hd entry (count _ _ _ _ wish) rel fresh
    refine wpAny_mono (steps.run [] s1 (start names vs) H _ inv holds) ?_ (fun _ _ q => q)
    intro flow s' got
    cases flow with
    | ret u =>
      obtain ⟨v, σ', H', J, rv, q⟩ := got
      exact ⟨v, H', J.os, J.bare, J.base, J.hok, rv, q⟩
    | next =>
      obtain ⟨σ', H', J, q⟩ := got
      exact ⟨V.non, H', J.os, J.bare, J.base, J.hok, rfl, q⟩
    | brk => exact got.elim fun _ h => h.elim fun _ h => False.elim h.2
    | cont => exact got.elim fun _ h => h.elim fun _ h => False.elim h.2
/-- what the top's def promises at the outermost call alone -/
def Top (P : Program) (w : World) (K : PySem.W.Frag) (mg : Str → Option Value) (base : Heap) (k : Nat) (f : Addr) (fd : FuncData) (x : Str) (sp : Sp) : Prop :=
  ∀ (s : Shared) (H : Hp) (ag : Args) (u : Value) (v : V) (Q : VK), Env0 P w K mg base callerA [] s H → BindsTo s fd ag [(x, u)] → RelV v u → sp [v] H Q (fun _ _ _ => False) →
    codeAny (model P w) callerA (.call (.ref f) ag) (CR CX0 [] P w H s Q (fun _ _ _ => False)) s
theorem atTop {P : Program} {w : World} {K : PySem.W.Frag} {mg : Str → Option Value} {base : Heap} {k : Nat} {f : Addr} {fd : FuncData} {x y qual : Str} {st : Stmt} {names : List Str} {sp : Sp}
    (F : Fun K y qual st f fd) (sc : FnScope names [x] (defScope st)) (room : Room (k + 1) callerA) (count : ∀ vs H Q E, sp vs H Q E → vs.length = 1)
    (inner : ∀ (cdv : Value) (outer : List Env) (s : Shared) (H : Hp) (vs : List V) (Q : VK) (E : XK), Room k (callerA.deeper (envOfC qual (defScope st) s.heap.objs.size f cdv)) → sp vs H Q E →
      ∃ t, PSs (cxOf CX0 P w K mg base names qual (defScope st) f cdv callerA outer s H E).nox (defBody st) t ∧ t { nx := fun _ H' => Q .non H', rt := Q } (start names vs) H) :
    Top P w K mg base k f fd x sp := by
  intro s H ag u v Q e0 hb hv hs
  obtain ⟨oc, od, kV, doc, pm, an, cdv, ct, osl, rfl, lk, hcd⟩ := F.ex
  refine fnAt (us := [u]) (vs := [v]) lk hcd sc count (fun outer s' H' vs' Q' E' room' wish => ?_) room e0 hb (.cons hv .nil) hs
  obtain ⟨t, h, q⟩ := inner cdv outer s' H' vs' Q' E' room' wish
  exact ⟨t, h.nox, q⟩
/-- from the def's promise at the outermost call to the row's claim about that call -/
theorem lawAt {P : Program} {w : World} {K : PySem.W.Frag} {mg mb : Str → Option Value} {k : Nat} {fa a : Addr} {fd : FuncData} {x : Str} {sp : Sp} {s₁ : Shared} {cells : List Value} {nums : List Int}
    (inK : K.In s₁.heap) (nsM : s₁.heap.Ns mainGlobals mg) (nsB : s₁.heap.Ns builtinsNs mb) (boot : ∀ y : Str, y ≠ "__name__" → mb y = bootBuiltins y) (lim : s₁.heap.NoLimit) (gens : s₁.gens = #[])
    (script : s₁.heap.get? a = some { cls := .type "list", data := .seq cells.toArray }) (are : IntsAre cells nums) (few : nums.length ≤ sizeLine)
    (main : ∀ base : Heap, K.In base → base.Ns mainGlobals mg → Top P w K mg base k fa fd x sp) (binds : ∀ (s : Shared) (u : Value), BindsTo s fd ⟨[u], []⟩ [(x, u)])
    (told : ∀ H : Hp, Only H → SqL K H a (nums.map V.int) → sp [.ref a] H (fun v _ => v = .bl true) fun _ _ _ => False) :
    codeAny (model P w) callerA (.call (.ref fa) ⟨[.ref a], []⟩) (fun r s' => r = .ok (.ret (.bool true)) ∧ OldK s₁.heap s'.heap ∧ s'.os = s₁.os ∧ AllBare s'.gens) s₁ := by
  have rel := vals_ints are
  have same := are.length
  suffices goal : ∀ H : Hp, Only H → SqL K H a (nums.map V.int) → HOk P w H s₁.heap → (∀ b o, H b = some o → b = a ∧ K.lookup a = none) →
      codeAny (model P w) callerA (.call (.ref fa) ⟨[.ref a], []⟩) (fun r s' => r = .ok (.ret (.bool true)) ∧ OldK s₁.heap s'.heap ∧ s'.os = s₁.os ∧ AllBare s'.gens) s₁ by
    cases look : K.lookup a with
    | some o =>
      have here := inK a o look
      rw [script] at here
      cases here
      exact goal (fun _ => none) (fun _ => Or.inl rfl) (Or.inr ⟨_, cells.toArray, _, look, rfl, rfl, rfl, (by rw [List.size_toArray, same]; exact few), (by simpa using rel)⟩) (fun b u z => by cases (show (none : Option HO) = some u from z)) (fun b o z => by cases (show (none : Option HO) = some o from z))
    | none =>
      let Ha : Hp := fun b => if b = a then some (.frz { cls := .type "list", data := .seq cells.toArray } (.lst (nums.map V.int))) else none
      have at_a : Ha a = some (.frz { cls := .type "list", data := .seq cells.toArray } (.lst (nums.map V.int))) := if_pos rfl
      have off : ∀ b o, Ha b = some o → b = a := fun b o z => by
        by_cases hb : b = a
        · exact hb
        · rw [show Ha b = none from if_neg hb] at z
          cases z
      refine goal Ha (fun b => ?_) (Or.inl (Or.inr ⟨_, at_a⟩)) (fun b u z => ?_) (fun b o z => ⟨off b o z, look⟩)
      · by_cases hb : b = a
        · exact Or.inr ⟨_, _, if_pos hb⟩
        · exact Or.inl (if_neg hb)
      · obtain rfl := off b u z
        rw [at_a] at z
        cases z
        exact ⟨script, by rw [List.length_map]; exact few, cells, _, rel, script⟩
  intro H only seq hok apart
  have free : ∀ {b : Addr} {o : Obj}, s₁.heap.get? b = some o → (∀ u, H b = some u → False) → (hidT s₁.heap H).get? b = some o := fun {b o} e n =>
    hidT_get e (by
      cases q : H b with
      | none => rfl
      | some u => exact (n u q).elim)
  have nsH : ∀ {b : Addr} {m : Str → Option Value}, s₁.heap.Ns b m → (hidT s₁.heap H).Ns b m := by
    rintro b m ⟨o, es, ep, e, d, r⟩
    refine ⟨o, es, ep, free e fun u z => ?_, d, r⟩
    obtain ⟨rfl, _⟩ := apart b u z
    rw [script] at e
    cases e
    cases (show Data.seq cells.toArray _ = Data.dict es ep from d)
  have kH : K.In (hidT s₁.heap H) := fun b o e => free (inK b o e) fun u z => by
    obtain ⟨rfl, n⟩ := apart b u z
    rw [n] at e
    cases e
  have mod : Mod K mg (hidT s₁.heap H) := ⟨kH, nsH nsM, ⟨mb, nsH nsB, boot⟩, let ⟨mc, h1, h2⟩ := lim; ⟨mc, nsH h1, h2⟩⟩
  have entry : Env0 P w K mg (hidT s₁.heap H) callerA [] s₁ H :=
    ⟨rfl, mod, fun b o e => of_hidT e, Nat.le_of_eq (hidT_size _ _), trivial, fun b hb => absurd (show b ∈ ([] : List Addr) from hb) (by simp), hok, .of_eq gens⟩
  refine codeAny_mono (main _ kH (nsH nsM) s₁ H ⟨[.ref a], []⟩ (.ref a) (.ref a) _ entry (binds s₁ (.ref a)) rfl (told H only seq)) ?_
  intro r s' got
  match r, got with
  | .ok (.ret u), got =>
    obtain ⟨v, H', os, bare, un, hok', rv, q⟩ := got
    obtain rfl : v = .bl true := q
    obtain rfl : u = Value.bool true := rv
    refine ⟨rfl, OldK.of_keep fun b o e => ?_, os, bare⟩
    rcases only b with z | ⟨ob, xs, z⟩
    · exact un.keep b o e z (by intro y; exact absurd (show b ∈ ([] : List Addr) from y) (by simp)) (by simp)
    · obtain ⟨e1, _⟩ := hok b _ z
      obtain ⟨e2, _⟩ := hok' b _ (un.frzs b ob _ z)
      rw [e] at e1
      cases e1
      exact e2
/-- the goal that k_head leaves, from the law's promise at the outermost call -/
theorem walkAt {l : PySem.W.OpenLaw} {n k : Nat} {q : Program} {loose : List Str} {XP : (Str → Option Value) → Heap → Prop} {YP : World → Heap → Prop} {d : DefRec} {K : Params → PySem.W.Frag} {sp : World → Sp} {x : Str}
    (most : l.most = some n) (line : n ≤ sizeLine) (plain : d.params.defaults = []) (inK : ∀ (w : World) (h : Heap), YP w h → (K w.params).In h)
    (F : ∀ (w : World) (mg : Str → Option Value) (fa : Addr) (h : Heap), (K w.params).In h → h.Ns mainGlobals mg → mg d.name = some (.ref fa) →
      ∃ fd : FuncData, (∀ (s : Shared) (u : Value), BindsTo s fd ⟨[u], []⟩ [(x, u)]) ∧ ∀ base : Heap, (K w.params).In base → base.Ns mainGlobals mg → Top l.prog w (K w.params) mg base k fa fd x (sp w))
    (told : ∀ (w : World) (H : Hp) (a : Addr) (ns : List Int), ns.length ≤ n → Only H → SqL (K w.params) H a (ns.map V.int) → sp w [.ref a] H (fun v _ => v = .bl true) fun _ _ _ => False) :
    PySem.W.WalkO q loose XP YP l.row.toRowW d [] (fun f vs => PySem.call f vs) := by
  refine Att.attach_call most plain ?_
  intro w s₀ s₁ mg mb fa o pm cd doc a vs ns G Y ho hd hcd hmg hobj hints hlen hg
  obtain ⟨fd, hb, hF⟩ := F w mg fa _ (inK w _ Y) G.T.g hmg
  exact lawAt (inK w _ Y) G.T.g G.T.b G.T.builtins G.T.nolimit hg hobj hints (Nat.le_trans hlen line) hF hb fun H hO hS => told w H a ns hlen hO hS
/-! ### repr of data, where no repr is under way -/
def rReprD (K : PySem.W.Frag) : List V → Hp → VK → Prop := fun xs H Q => ∃ a d, xs = [.ref a] ∧ Dp K H (.ref a) d ∧ d.showable = true ∧ d.hasDict = false ∧ d.depth ≤ 40 ∧ d.shown.length ≤ sizeLine ∧ Q (.str d.shown) H
theorem call_reprD {X : Cx} (hg : X.A.guards = some []) (hu : X.A.units + 64 < cLine) : CallR X (.builtin "repr") (rReprD X.K) := by
  intro pins s σ H xs us Q I r h
  obtain ⟨a, d, rfl, hd, sh, nd, dep, sz, q⟩ := h
  obtain ⟨u, rfl, rv⟩ := vals1 r
  obtain rfl : u = Value.ref a := rv
  obtain ⟨as, rd⟩ := Dp.reads I d _ _ hd (show RelV (.ref a) (.ref a) from rfl)
  refine repr_of_reads' rd sh (by rw [nd]; exact fun z => nomatch z) hg (by omega) (fun b o e => e) (fun h' u tk keep => ?_) sz
  exact ⟨.str _, H, I.kept keep, ⟨_, rfl⟩, q⟩
/-! ### f(k = v, ..): keywords alone -/
section
variable {X : Cx} {CX : CXT} {k : Nat} {f : Addr} {fd : FuncData} {ps ks : List Str} {sp : Sp} {E : XK} {x : Str} {p pos : Pos} {kws : List Keyword} {tk : TA} {g : List Value → List Value → List Value} {gV : List V → List V → List V}
theorem pe_callK0 (F : FnOk X.prog X.w X.K X.mg X.base CX k f fd ps sp) (hr : Room k X.A) (hg : Gl X x) (hm : X.mg x = some (.ref f)) (hk : PySem.W.keepIn X.K (.ref f) = true) (hb : KBn X.K fd ps 0 ks g gV) (hx : Passes CX X E) (hkw : PK X kws tk)
    (hall : (backToKw pos (keywordEach kws X.env)).all (·.1.isSome) = true := by rfl) (hks : (backToKw pos (keywordEach kws X.env)).filterMap (·.1) = ks := by rfl) (hdb : (x == ("__debug__" : Str)) = false := by decide)
    (hpl : ((backTo pos (starEach [] X.env)).any (·.1) || (backToKw pos (keywordEach kws X.env)).any (·.1.isNone)) = false := by rfl) :
    PE X (.Call (.Name x p) [] kws pos) (tCallN 0 ks.length sp gV E tNil tk) := by
  refine ⟨fun pins s σ H Q I h => ?_⟩
  refine wpAny_Call_Name_kw (ld_glob I hg hm ?_ hdb)
  refine PySem.W.callWith_KW0 (h₀ := X.base) I.ok.mod.kin hk hall ?_ hpl
  refine thn (hkw.run pos pins s σ H _ I h) ?_
  rintro ws s2 ⟨zs, H2, I2, rz, l1, l2, q2⟩
  refine ⟨I2.kIn, ?_⟩
  rw [hks]
  exact run_fnN F hr hb hx I2 (.nil) rz l1 l2 q2
end
end Sq
namespace Sq
open PySem PySem.Spec PyProof.Rows L2
/-- what a caller wants of a def of the text: it stands at its name and keeps its promise -/
structure Df (P : Program) (w : World) (K : PySem.W.Frag) (mg : Str → Option Value) (base : Heap) (k : Nat) (x : Str) (ps : List Str) (sp : Sp) : Prop where
  ex : ∃ f fd, FnOk P w K mg base CX0 k f fd ps sp ∧ mg x = some (.ref f) ∧ PySem.W.keepIn K (.ref f) = true ∧ Binds K fd ps []
section
variable {X : Cx} {k : Nat} {ps : List Str} {sp : Sp} {x : Str} {p pos : Pos} {e : Expr} {es : List Expr} {t : TA}
theorem pe_callD (D : Df X.prog X.w X.K X.mg X.base k x ps sp) (hr : Room k X.A) (hg : Gl X x) (ha : PA X (e :: es) t) (hdb : (x == ("__debug__" : Str)) = false := by decide)
    (he : starEach (e :: es) X.env = (false, eval e X.env) :: starEach es X.env := by rfl) (hpl : (backTo pos (starEach es X.env)).any (·.1) = false := by rfl) :
    PE X (.Call (.Name x p) (e :: es) [] pos) (tCall sp [] E0 t) := by
  obtain ⟨f, fd, F, g, kp, b⟩ := D.ex
  exact pe_call F hr hg g kp b .nil pass0 ha hdb he hpl
end
section
variable {P : Program} {w : World} {K : PySem.W.Frag} {mg : Str → Option Value} {base : Heap}
/-- a def without defaults, from its place in the text and its promise -/
theorem Df.mk' {k : Nat} {x : Str} {st : Stmt} {ps : List Str} {sp : Sp} {f : Addr} {fd : FuncData} (F : Fun K x x st f fd) (G : FnOk P w K mg base CX0 k f fd ps sp) (g : mg x = some (.ref f)) (b : Binds K fd ps []) : Df P w K mg base k x ps sp :=
  ⟨⟨f, fd, G, g, F.kp, b⟩⟩
end
end Sq
namespace Sq
open PySem PySem.Spec PyProof.Rows L2
/-- .. by keywords alone -/
structure Dk (P : Program) (w : World) (K : PySem.W.Frag) (mg : Str → Option Value) (base : Heap) (k : Nat) (x : Str) (ps ks : List Str) (gV : List V → List V → List V) (sp : Sp) : Prop where
  ex : ∃ f fd g, FnOk P w K mg base CX0 k f fd ps sp ∧ mg x = some (.ref f) ∧ PySem.W.keepIn K (.ref f) = true ∧ KBn K fd ps 0 ks g gV
section
variable {X : Cx} {k : Nat} {ps ks : List Str} {sp : Sp} {x : Str} {p pos : Pos} {e : Expr} {es : List Expr} {t tk : TA} {dvs : List V} {gV : List V → List V → List V} {kws : List Keyword}
theorem pe_callKD (D : Dk X.prog X.w X.K X.mg X.base k x ps ks gV sp) (hr : Room k X.A) (hg : Gl X x) (hkw : PK X kws tk)
    (hall : (backToKw pos (keywordEach kws X.env)).all (·.1.isSome) = true := by rfl) (hks : (backToKw pos (keywordEach kws X.env)).filterMap (·.1) = ks := by rfl) (hdb : (x == ("__debug__" : Str)) = false := by decide)
    (hpl : ((backTo pos (starEach [] X.env)).any (·.1) || (backToKw pos (keywordEach kws X.env)).any (·.1.isNone)) = false := by rfl) :
    PE X (.Call (.Name x p) [] kws pos) (tCallN 0 ks.length sp gV E0 tNil tk) := by
  obtain ⟨f, fd, g, F, hm, kp, b⟩ := D.ex
  exact pe_callK0 F hr hg hm kp b pass0 hkw hall hks hdb hpl
end
end Sq
namespace Sq
open PySem PySem.Spec PyProof.Rows L2
/-- a test whose ways are told apart from what follows -/
theorem tell {c : TT} {σ : L2.St} {H : Hp} {Q : Bool → Hp → Prop} (T F : Hp → Prop) (h : ∀ Q' : Bool → Hp → Prop, (∀ H2, T H2 → Q' true H2) → (∀ H2, F H2 → Q' false H2) → c σ H Q') (hT : ∀ H2, T H2 → Q true H2) (hF : ∀ H2, F H2 → Q false H2) : c σ H Q := h Q hT hF
end Sq
set_option Elab.async false
set_option linter.all false
/-! Squeezing and reaches in plain Lean. -/
namespace Sq
def once (n k : Int) : Int := n / k + n % k
def sq (n : Int) (ks : List Int) : Int := ks.foldl once n
def rw1 (k R : Int) : Int := if k > R + 1 then R else (R + 3 - k) * k - 2
theorem once_nonneg {k n : Int} (hk : 2 ≤ k) (h0 : 0 ≤ n) : 0 ≤ once n k := by
  unfold once
  have h1 := Int.ediv_nonneg h0 (by omega : 0 ≤ k)
  have h2 := Int.emod_nonneg n (by omega : k ≠ 0)
  omega
theorem sq_concat (n : Int) (ks : List Int) (k : Int) : sq n (ks ++ [k]) = once (sq n ks) k := by
  unfold sq
  rw [List.foldl_append]
  rfl
end Sq
set_option Elab.async false
set_option linter.all false
set_option maxHeartbeats 1000000
/-! Two lists part at the run between their greatest origins of 1. -/
namespace Sq
theorem sq_cons (n k : Int) (ks : List Int) : sq n (k :: ks) = sq (once n k) ks := rfl
def pro (ks : List Int) : Int := ks.foldl (· * ·) 1
theorem pro_from : ∀ (ks : List Int) (n : Int), ks.foldl (· * ·) n = n * pro ks
  | [], n => (Int.mul_one n).symm
  | k :: ks, n => by
    show ks.foldl (· * ·) (n * k) = n * (ks.foldl (· * ·) (1 * k))
    rw [pro_from ks (n * k), pro_from ks (1 * k), Int.one_mul, Int.mul_assoc]
theorem pro_cons (k : Int) (ks : List Int) : pro (k :: ks) = k * pro ks := by
  show ks.foldl (· * ·) (1 * k) = _
  rw [pro_from, Int.one_mul]
theorem pro_pos : ∀ {ks : List Int}, (∀ k ∈ ks, 2 ≤ k) → 1 ≤ pro ks
  | [], _ => by decide
  | k :: ks, h => by
    rw [pro_cons]
    have a := h k (List.mem_cons_self ..)
    have b := pro_pos (ks := ks) fun x hx => h x (List.mem_cons_of_mem _ hx)
    have := Int.mul_le_mul a b (by decide) (by omega)
    omega
theorem once_mul {k m : Int} (h : 2 ≤ k) : once (k * m) k = m := by
  unfold once
  rw [Int.mul_ediv_cancel_left m (by omega), Int.mul_emod_right, Int.add_zero]
/-- a multiple of the product -/
theorem sq_mul : ∀ (ks : List Int) (m : Int), (∀ k ∈ ks, 2 ≤ k) → sq (pro ks * m) ks = m
  | [], m, _ => Int.one_mul m
  | k :: ks, m, h => by
    rw [sq_cons, pro_cons, Int.mul_assoc, once_mul (h k (List.mem_cons_self ..))]
    exact sq_mul ks m fun x hx => h x (List.mem_cons_of_mem _ hx)
theorem once_grow {n k : Int} (hk : 2 ≤ k) (h0 : 0 ≤ n) : n ≤ k * once n k := by
  unfold once
  have e := Int.mul_ediv_add_emod n k
  have m0 := Int.emod_nonneg n (by omega : k ≠ 0)
  have : n % k ≤ k * (n % k) := by
    have := Int.mul_le_mul_of_nonneg_right (show 1 ≤ k by omega) m0
    rwa [Int.one_mul] at this
  rw [Int.mul_add]
  omega
/-- what is longer than the product isn't single -/
theorem sq_grow : ∀ (ks : List Int) (n : Int), (∀ k ∈ ks, 2 ≤ k) → 0 ≤ n → n ≤ pro ks * sq n ks
  | [], n, _, _ => Int.le_of_eq (Int.one_mul n).symm
  | k :: ks, n, h, h0 => by
    have k2 := h k (List.mem_cons_self ..)
    have hs : ∀ x ∈ ks, 2 ≤ x := fun x hx => h x (List.mem_cons_of_mem _ hx)
    have a := once_grow k2 h0
    have b := sq_grow ks (once n k) hs (once_nonneg k2 h0)
    rw [sq_cons, pro_cons, Int.mul_assoc]
    exact Int.le_trans a (Int.mul_le_mul_of_nonneg_left b (by omega))
end Sq
set_option Elab.async false
set_option linter.all false
set_option maxRecDepth 100000
set_option maxHeartbeats 2000000
/-! Own errors whose __init__ says super().__init__(..) and stores its argument as value. -/
set_option Elab.async false
set_option linter.all false
set_option maxRecDepth 100000
set_option maxHeartbeats 2000000
set_option Elab.async false
set_option linter.all false
set_option maxRecDepth 100000
set_option maxHeartbeats 4000000
/-! The same by keyword. -/
set_option Elab.async false
set_option linter.all false
set_option maxRecDepth 100000
set_option maxHeartbeats 2000000
/-! Own errors as values of the layer: made by position and by name, isinstance of them, their value. -/
namespace Sq
open PySem PySem.Spec PyProof.Rows L2
/-- an error of the class at C stands at a, its dict at d; it holds v -/
def ErrAt (H : Hp) (a d C : Addr) (v : V) : Prop := H a = some (exo a C (some d)) ∧ H d = some (exd d [(("value" : Str), v)])
theorem ErrAt.same {H H' : Hp} {a d C : Addr} {v : V} (s : Same H H') (e : ErrAt H a d C v) : ErrAt H' a d C v := ⟨s _ _ e.1, s _ _ e.2⟩
end Sq
set_option Elab.async false
set_option linter.all false
set_option maxRecDepth 100000
set_option maxHeartbeats 2000000
set_option Elab.async false
set_option linter.all false
set_option maxRecDepth 100000
set_option maxHeartbeats 2000000
/-! Own errors raised; a caught one kept behind its suite. -/
namespace Sq
open PySem PySem.Spec PyProof.Rows L2
/-- an error that was raised: its class and its dict are known -/
def exq (a C : Addr) (d : Option Addr) : HO := .ext fun h => ∃ (oe : Obj) (vs : Array Value), h.get? a = some oe ∧ Zc (.ref C) d oe ∧ oe.data = .fields vs
end Sq
set_option Elab.async false
set_option linter.all false
set_option maxRecDepth 100000
set_option maxHeartbeats 4000000
/-! try: .. except X as n: suite, where the caught error is still known behind it. -/
namespace Sq
open PySem PySem.Spec PyProof.Rows L2
/-! ### what is asked of a caught error -/
/-- an error of the class at C was caught at a, its dict at d; it holds v -/
def CaughtAt (H : Hp) (a d C : Addr) (v : V) : Prop := H a = some (exq a C (some d)) ∧ H d = some (exd d [(("value" : Str), v)])
theorem CaughtAt.same {H H' : Hp} {a d C : Addr} {v : V} (s : Same H H') (e : CaughtAt H a d C v) : CaughtAt H' a d C v := ⟨s _ _ e.1, s _ _ e.2⟩
end Sq
set_option Elab.async false
set_option linter.all false
set_option maxRecDepth 100000
set_option maxHeartbeats 2000000
/-! A walk that is left at its first item: for x in g(..): break. -/
set_option Elab.async false
set_option linter.all false
set_option maxRecDepth 100000
set_option maxHeartbeats 2000000
/-! Calls that may raise. -/
namespace Sq
open PySem PySem.Spec PyProof.Rows L2
structure Dx (P : Program) (w : World) (K : PySem.W.Frag) (mg : Str → Option Value) (base : Heap) (k : Nat) (x : Str) (ps : List Str) (sp : Sp) : Prop where
  ex : ∃ f fd, FnOk P w K mg base (L2.CX P w) k f fd ps sp ∧ mg x = some (.ref f) ∧ PySem.W.keepIn K (.ref f) = true ∧ Binds K fd ps []
theorem Dx.mk' {P : Program} {w : World} {K : PySem.W.Frag} {mg : Str → Option Value} {base : Heap} {k : Nat} {x : Str} {st : Stmt} {ps : List Str} {sp : Sp} {f : Addr} {fd : FuncData} (F : Fun K x x st f fd) (G : FnOk P w K mg base (L2.CX P w) k f fd ps sp) (g : mg x = some (.ref f)) (b : Binds K fd ps []) : Dx P w K mg base k x ps sp :=
  ⟨⟨f, fd, G, g, F.kp, b⟩⟩
end Sq
set_option Elab.async false
set_option linter.all false
set_option maxRecDepth 100000
set_option maxHeartbeats 4000000
/-! A def called within an except suite: walks over lists, pairs unpacked, comprehensions, the handled error asked. -/
namespace Sq
open PySem PySem.Spec PyProof.Rows L2 HotX L2H
/-! ### hot contexts -/
/-- wherever the context's invariant holds an error is handled whose context is None -/
def HotW (X : Cx) : Prop := ∀ (pins : List (Addr × Obj)) (σ : L2.St) (H : Hp) (s : Shared), Inv X pins σ H s → ∃ x1, HotAt X.A x1 s.heap
theorem HotC.w {X : Cx} (c : HotC X) : HotW X := fun _ _ _ _ I => c.at I
end Sq
set_option Elab.async false
set_option linter.all false
set_option maxRecDepth 100000
set_option maxHeartbeats 4000000
/-! A def of the law called within an except suite with the caught error. -/
namespace Sq
open PySem PySem.Spec PyProof.Rows L2 HotX L2H
/-- what a def promises there: e the handled error, its class, its dict -/
abbrev SpZ := Addr → Value → Option Addr → Sp
structure FnHZ (P : Program) (w : World) (K : PySem.W.Frag) (mg : Str → Option Value) (base : Heap) (CX : CXT) (k : Nat) (f : Addr) (fd : FuncData) (ps : List Str) (sp : SpZ) : Prop where
  len : ∀ a c d vs H Q E, sp a c d vs H Q E → vs.length = ps.length
  run : ∀ (A : Around) (outer : List Env) (s : Shared) (H : Hp) (args : Args) (us : List Value) (vs : List V) (Q : VK) (E : XK) (p : Addr × Obj) (cls : Value) (d : Option Addr), RoomH k A → Hot1 A p → L2N.Zn cls d p.2 → PinOk outer H s p → Env0 P w K mg base A outer s H → BindsTo s fd args (ps.zip us) → Vals vs us → sp p.1 cls d vs H Q E →
    codeAny (model P w) A (.call (.ref f) args) (CR CX outer P w H s Q E) s
/-- it stands at its name -/
structure Dz (P : Program) (w : World) (K : PySem.W.Frag) (mg : Str → Option Value) (base : Heap) (k : Nat) (x : Str) (ps : List Str) (sp : SpZ) : Prop where
  ex : ∃ f fd, FnHZ P w K mg base CX0 k f fd ps sp ∧ mg x = some (.ref f) ∧ PySem.W.keepIn K (.ref f) = true ∧ Binds K fd ps []
/-! ### what is asked of the handled error -/
end Sq
set_option Elab.async false
set_option linter.all false
set_option maxRecDepth 100000
set_option maxHeartbeats 4000000
/-! Calls that may raise, where the error's context is known to be None. -/
namespace Sq
open PySem PySem.Spec PyProof.Rows L2
structure Dn (P : Program) (w : World) (K : PySem.W.Frag) (mg : Str → Option Value) (base : Heap) (k : Nat) (x : Str) (ps : List Str) (sp : Sp) : Prop where
  ex : ∃ f fd, FnOk P w K mg base (L2N.CX P w) k f fd ps sp ∧ mg x = some (.ref f) ∧ PySem.W.keepIn K (.ref f) = true ∧ Binds K fd ps []
theorem Dn.mk' {P : Program} {w : World} {K : PySem.W.Frag} {mg : Str → Option Value} {base : Heap} {k : Nat} {x : Str} {st : Stmt} {ps : List Str} {sp : Sp} {f : Addr} {fd : FuncData} (F : Fun K x x st f fd) (G : FnOk P w K mg base (L2N.CX P w) k f fd ps sp) (g : mg x = some (.ref f)) (b : Binds K fd ps []) : Dn P w K mg base k x ps sp :=
  ⟨⟨f, fd, G, g, F.kp, b⟩⟩
theorem Dz.mk' {P : Program} {w : World} {K : PySem.W.Frag} {mg : Str → Option Value} {base : Heap} {k : Nat} {x : Str} {st : Stmt} {ps : List Str} {sp : SpZ} {f : Addr} {fd : FuncData} (F : Fun K x x st f fd) (G : FnHZ P w K mg base CX0 k f fd ps sp) (g : mg x = some (.ref f)) (b : Binds K fd ps []) : Dz P w K mg base k x ps sp :=
  ⟨⟨f, fd, G, g, F.kp, b⟩⟩
end Sq
set_option Elab.async false
set_option linter.all false
set_option maxRecDepth 100000
set_option maxHeartbeats 2000000
/-! Data read off the layer's heap. -/
namespace Sq
open PySem PySem.Spec PyProof.Rows L2
theorem same_new {H : Hp} {p : Addr} {o : HO} (h : H p = none) : Same H (upd H p o) := fun b x e => by
  rw [upd_ne (ne_of_none e h)]
  exact e
theorem map_at {ks : List Int} {i : Nat} {x : V} (h : (ks.map V.int)[i]? = some x) : ∃ k, ks[i]? = some k ∧ V.int k = x := by
  rw [List.getElem?_map] at h
  exact Option.map_eq_some_iff.mp h
section
variable {K : PySem.W.Frag}
theorem dp_ints {H : Hp} : ∀ (ds : List Int), DpAll K H (ds.map V.int) (ds.map PyData.int)
  | [] => .nil
  | d :: ds => .cons (.int d) (dp_ints ds)
theorem lays_ints : ∀ (ds : List Int), PyData.canLayAll0 (ds.map PyData.int) = true
  | [] => rfl
  | d :: ds => by
    show (PyData.canLay0 (.int d) && PyData.canLayAll0 (ds.map PyData.int)) = true
    rw [lays_ints ds]
    rfl
theorem deep_ints : ∀ (ds : List Int), PyData.depthAll (ds.map PyData.int) ≤ 1
  | [] => Nat.zero_le _
  | _ :: ds => Nat.max_le.mpr ⟨Nat.zero_le _, deep_ints ds⟩
theorem shaped_ints (ds : List Int) : SeqAt.shaped (.list (ds.map PyData.int)) = true :=
  Bool.and_eq_true_iff.mpr ⟨lays_ints ds, decide_eq_true (Nat.le_trans (Nat.add_le_add_right (deep_ints ds) 1) (by decide))⟩
end
/-! ### data of ints and short lists -/
theorem depth_at : ∀ {ds : List PyData} {i : Nat} {d : PyData}, ds[i]? = some d → d.depth ≤ PyData.depthAll ds
  | x :: xs, 0, d, e => by
    cases e
    exact Nat.le_max_left _ _
  | x :: xs, i + 1, d, e => Nat.le_trans (depth_at (ds := xs) e) (Nat.le_max_right _ _)
theorem dp_at {K : PySem.W.Frag} {H : Hp} : ∀ {xs : List V} {ds : List PyData} {i : Nat} {d : PyData}, DpAll K H xs ds → ds[i]? = some d → ∃ x, xs[i]? = some x ∧ Dp K H x d
  | _, _, 0, d, .cons h _, e => by
    cases e
    exact ⟨_, rfl, h⟩
  | _, _, i + 1, d, .cons _ t, e => dp_at (i := i) t e
theorem dp_len {K : PySem.W.Frag} {H : Hp} : ∀ {xs : List V} {ds : List PyData}, DpAll K H xs ds → xs.length = ds.length
  | _, _, .nil => rfl
  | _, _, .cons _ t => congrArg Nat.succ (dp_len t)
mutual
theorem Dp.same {K : PySem.W.Frag} {H H' : Hp} (s : Same H H') : ∀ {d : PyData} {x : V}, Dp K H x d → Dp K H' x d
  | .none, _, .non => .non
  | .bool b, _, .bl _ => .bl b
  | .int i, _, .int _ => .int i
  | .str x, _, .str _ => .str x
  | .list ds, _, .lst h a => .lst (s.seq h) (DpAll.same s a)
  | .tuple ds, _, .tup h a => .tup (by
      rcases h with (h | ⟨o, h⟩) | h
      · exact .inl (.inl (s _ _ h))
      · exact .inl (.inr ⟨o, s _ _ h⟩)
      · exact .inr h) (DpAll.same s a)
theorem DpAll.same {K : PySem.W.Frag} {H H' : Hp} (s : Same H H') : ∀ {ds : List PyData} {xs : List V}, DpAll K H xs ds → DpAll K H' xs ds
  | [], _, .nil => .nil
  | _ :: _, _, .cons h t => .cons (Dp.same s h) (DpAll.same s t)
end
theorem ty_seq {K : PySem.W.Frag} {H : Hp} {a : Addr} {xs : List V} (h : SqL K H a xs) : TyX K H (.ref a) (.type "list") := by
  rcases h with (h | ⟨o, h⟩) | ⟨o, vs, m, h, hc, _⟩
  · exact .base (.lst h)
  · exact .base (.frz h)
  · exact .kList h hc
/-! ### the text of a list of ints -/
theorem heavy_ints : ∀ (ks : List Int), (∀ k ∈ ks, k.natAbs < 10 ^ 12) → PyData.weightAll (ks.map PyData.int) ≤ 64 * ks.length
  | [], _ => Nat.le_refl _
  | k :: ks, h => by
    have ih := heavy_ints ks fun x hx => h x (List.mem_cons_of_mem _ hx)
    have hk := h k (List.mem_cons_self ..)
    have w1 : PyData.weight (.int k) ≤ 41 := by
      show (if k == 0 then 0 else k.natAbs.log2 + 1) ≤ 41
      split
      · omega
      · have : k.natAbs.log2 < 40 := PySem.Flt.log2_lt_of (by decide) (Nat.lt_of_lt_of_le hk (by decide))
        omega
    show PyData.weight (.int k) + 1 + PyData.weightAll (ks.map PyData.int) ≤ 64 * (ks.length + 1)
    omega
theorem shows_ints : ∀ (ks : List Int), (∀ k ∈ ks, k.natAbs < 10 ^ 12) → PyData.showableAll (ks.map PyData.int) = true
  | [], _ => rfl
  | k :: ks, h => by
    have ih := shows_ints ks fun x hx => h x (List.mem_cons_of_mem _ hx)
    have hk := h k (List.mem_cons_self ..)
    have : k.natAbs.log2 < 40 := PySem.Flt.log2_lt_of (by decide) (Nat.lt_of_lt_of_le hk (by decide))
    show (decide (k.natAbs.log2 < 1920) && PyData.showableAll (ks.map PyData.int)) = true
    rw [ih, decide_eq_true (by omega)]
    rfl
theorem nodict_ints : ∀ (ks : List Int), PyData.hasDictAll (ks.map PyData.int) = false
  | [] => rfl
  | _ :: ks => nodict_ints ks
theorem short_ints {ks : List Int} (h : ∀ k ∈ ks, k.natAbs < 10 ^ 12) (hl : ks.length ≤ 1000) : (PyData.list (ks.map PyData.int)).shown.length ≤ sizeLine := by
  have w1 : PyData.weight (.list (ks.map PyData.int)) ≤ 64 * ks.length := heavy_ints ks h
  have lv := PyData.leavesShort_of_canLay0 13 (.list (ks.map PyData.int)) (lays_ints ks) (PyData.intsShortAll_ints ks h)
  refine PyData.shown_fits (B := 13) (by decide) (by decide) lv (Nat.le_trans w1 ?_)
  have e : (2 : Nat) ^ 20 = 1048576 := by decide
  omega
theorem dep40 (ks : List Int) : (PyData.list (ks.map PyData.int)).depth ≤ 40 := Nat.le_trans (Nat.add_le_add_right (deep_ints ks) 1) (by decide)
theorem shaped_il {d : PyData} (h : d.canLay0 = true) (h2 : d.depth ≤ 64) : SeqAt.shaped d = true := Bool.and_eq_true_iff.mpr ⟨h, decide_eq_true h2⟩
theorem KE_same {a b : List Int} (hp : a.Perm b) (ha : a.Pairwise (· ≤ ·)) (hb : b.Pairwise (· ≤ ·)) : a = b := hp.eq_of_pairwise (fun x y _ _ h1 h2 => Int.le_antisymm h1 h2) ha hb
end Sq
namespace Sq
open PySem PySem.Spec PyProof.Rows L2
/-! ### repr of any value whose data is known -/
structure Shown (K : PySem.W.Frag) (H : Hp) (x : V) (d : PyData) : Prop where
  dp : Dp K H x d
  sh : d.showable = true
  nd : d.hasDict = false
  dep : d.depth ≤ 40
  fit : d.shown.length ≤ sizeLine
theorem Shown.same {K : PySem.W.Frag} {H H' : Hp} {x : V} {d : PyData} (S : Shown K H x d) (s : Same H H') : Shown K H' x d := ⟨Dp.same s S.dp, S.sh, S.nd, S.dep, S.fit⟩
def rReprV (K : PySem.W.Frag) : List V → Hp → VK → Prop := fun xs H Q => ∃ x d, xs = [x] ∧ Shown K H x d ∧ Q (.str d.shown) H
theorem call_reprV {X : Cx} (hg : X.A.guards = some []) (hu : X.A.units + 64 < cLine) : CallR X (.builtin "repr") (rReprV X.K) := by
  intro pins s σ H xs us Q I r h
  obtain ⟨x, d, rfl, S, q⟩ := h
  obtain ⟨u, rfl, rv⟩ := vals1 r
  obtain ⟨dp, sh, nd, dep, fit⟩ := S
  cases dp with
  | non =>
    obtain rfl : u = Value.none := rv
    exact PySem.P.repr_of_none ⟨.str _, H, I.tok _, ⟨_, rfl⟩, q⟩
  | bl b =>
    obtain rfl : u = Value.bool b := rv
    exact PySem.P.repr_of_bool ⟨.str _, H, I.tok _, ⟨_, rfl⟩, q⟩
  | int i =>
    obtain ⟨t, rfl⟩ := rv
    exact PySem.P.repr_of_int (of_decide_eq_true sh) ⟨.str _, H, I.tok _, ⟨_, rfl⟩, q⟩
  | str y =>
    obtain ⟨t, rfl⟩ := rv
    exact PySem.P.repr_of_str ⟨.str _, H, I.tok _, ⟨_, rfl⟩, q⟩ fit
  | lst hs ha => exact call_reprD hg hu pins s σ H _ _ Q I r ⟨_, _, rfl, .lst hs ha, sh, nd, dep, fit, q⟩
  | tup hs ha => exact call_reprD hg hu pins s σ H _ _ Q I r ⟨_, _, rfl, .tup hs ha, sh, nd, dep, fit, q⟩
theorem fits40 {d : PyData} (h : d.leavesShort 40 = true) (hw : d.weight ≤ 100000) : d.shown.length ≤ sizeLine := by
  have e := PyData.shown_le 40 (by decide) d h
  rw [sizeLine_eq]
  omega
/-! ### powers of greater numbers -/
end Sq
set_option Elab.async false
set_option linter.all false
set_option maxRecDepth 100000
set_option maxHeartbeats 2000000
/-! What the laws share: the built-in names, the error classes, low numbers, data that can be shown, keeping heaps. -/
namespace Sq
open PySem PySem.Spec PyProof.Rows L2
structure Bi (mg : Str → Option Value) : Prop where
  n_len : mg "len" = none
  n_min : mg "min" = none
  n_max : mg "max" = none
  n_abs : mg "abs" = none
  n_range : mg "range" = none
  n_isinstance : mg "isinstance" = none
  n_repr : mg "repr" = none
  n_enumerate : mg "enumerate" = none
  n_reversed : mg "reversed" = none
  n_sorted : mg "sorted" = none
  n_bool : mg "bool" = none
  n_int : mg "int" = none
  n_str : mg "str" = none
  n_list : mg "list" = none
  n_tuple : mg "tuple" = none
  n_set : mg "set" = none
  n_sum : mg "sum" = none
  n_zip : mg "zip" = none
  n_all : mg "all" = none
  n_any : mg "any" = none
  n_ValueError : mg "ValueError" = none
  n_divmod : mg "divmod" = none
/-- the first number less than 2 -/
def lowAt : List Int → Option Nat
  | [] => none
  | k :: ks => if k < 2 then some 0 else (lowAt ks).map (· + 1)
theorem lowAt_take : ∀ (ks : List Int) (i : Nat), (∀ k ∈ ks.take i, 2 ≤ k) → (∀ k, ks[i]? = some k → k < 2 → lowAt ks = some i) ∧ (ks.length ≤ i → lowAt ks = none)
  | [], i, _ => ⟨fun k e => by simp at e, fun _ => rfl⟩
  | k :: ks, 0, _ => ⟨fun x e c => by
      cases e
      show (if k < 2 then some 0 else (lowAt ks).map (· + 1)) = some 0
      rw [if_pos c], fun z => by simp at z⟩
  | k :: ks, i + 1, h => by
    have hk := h k (by simp)
    obtain ⟨a, b⟩ := lowAt_take ks i fun x hx => h x (by simp [hx])
    refine ⟨fun x e c => ?_, fun z => ?_⟩
    · show (if k < 2 then some 0 else (lowAt ks).map (· + 1)) = some (i + 1)
      rw [if_neg (by omega), a x e c]
      rfl
    · show (if k < 2 then some 0 else (lowAt ks).map (· + 1)) = none
      rw [if_neg (by omega), b (by simpa using z)]
      rfl
/-! ### data that can be shown -/
structure Gd (n : Nat) (d : PyData) : Prop where
  sh : d.showable = true
  nd : d.hasDict = false
  dep : d.depth ≤ 4
  lf : d.leavesShort 40 = true
  wt : d.weight ≤ n
structure GdA (n : Nat) (ds : List PyData) : Prop where
  sh : PyData.showableAll ds = true
  nd : PyData.hasDictAll ds = false
  dep : PyData.depthAll ds ≤ 3
  lf : PyData.leavesShortAll 40 ds = true
  wt : PyData.weightAll ds ≤ n
theorem GdA.nil : GdA 0 [] := ⟨rfl, rfl, Nat.zero_le _, rfl, Nat.le_refl _⟩
theorem GdA.cons {n m : Nat} {d : PyData} {ds : List PyData} (h : Gd n d) (dp : d.depth ≤ 3) (t : GdA m ds) : GdA (n + 1 + m) (d :: ds) := by
  refine ⟨?_, ?_, Nat.max_le.mpr ⟨dp, t.dep⟩, ?_, ?_⟩
  · show (d.showable && PyData.showableAll ds) = true
    rw [h.sh, t.sh]; rfl
  · show (d.hasDict || PyData.hasDictAll ds) = false
    rw [h.nd, t.nd]; rfl
  · show (d.leavesShort 40 && PyData.leavesShortAll 40 ds) = true
    rw [h.lf, t.lf]; rfl
  · have a := h.wt
    have b := t.wt
    show d.weight + 1 + PyData.weightAll ds ≤ n + 1 + m
    omega
theorem GdA.list {n : Nat} {ds : List PyData} (t : GdA n ds) : Gd n (.list ds) := ⟨t.sh, t.nd, Nat.add_le_add_right t.dep 1, t.lf, t.wt⟩
theorem Gd.shown {n : Nat} {K : PySem.W.Frag} {H : Hp} {x : V} {d : PyData} (h : Gd n d) (l : n ≤ 100000) (dp : Dp K H x d) : Shown K H x d :=
  ⟨dp, h.sh, h.nd, Nat.le_trans h.dep (by decide), fits40 h.lf (Nat.le_trans h.wt l)⟩
/-! ### the low numbers -/
/-- the heap without one cell -/
def wo (H : Hp) (D : Addr) : Hp := fun b => if b = D then none else H b
theorem wo_upd {H : Hp} {D : Addr} {o : HO} : wo (upd H D o) D = wo H D := by
  funext b
  unfold wo
  by_cases h : b = D
  · rw [if_pos h, if_pos h]
  · rw [if_neg h, if_neg h, upd_ne h]
theorem wo_ne {H : Hp} {D b : Addr} (h : b ≠ D) : wo H D b = H b := by
  unfold wo
  rw [if_neg h]
theorem wo_same {H : Hp} {D : Addr} : Same (wo H D) H := fun b o e => by
  unfold wo at e
  by_cases h : b = D
  · rw [if_pos h] at e; cases e
  · rw [if_neg h] at e; exact e
theorem same_wo {G H : Hp} {D : Addr} (s : Same G H) (h : G D = none) : Same G (wo H D) := fun b o e => by
  rw [wo_ne (fun z => by subst z; rw [h] at e; cases e)]
  exact s b o e
theorem wo_self {H : Hp} {D : Addr} : wo H D D = none := by
  unfold wo
  rw [if_pos rfl]
end Sq
set_option Elab.async false
set_option linter.all false
set_option maxHeartbeats 1000000
/-! What parting_run returns. -/
set_option Elab.async false
set_option linter.all false
set_option maxHeartbeats 1000000
/-! A hidden list, found by questions. -/
namespace Sq
theorem pro_app (ks ls : List Int) : pro (ks ++ ls) = pro ks * pro ls := by
  unfold pro
  rw [List.foldl_append]
  exact pro_from ls _
end Sq
set_option Elab.async false
set_option linter.all false
set_option maxRecDepth 100000
set_option maxHeartbeats 1000000
/-! Counting: how many lengths up to a limit become one that is told. -/
namespace Sq
open PySem PySem.Spec PyProof.Rows L2
def onceN (n k : Nat) : Nat := n / k + n % k
def cntN (f : Nat → Bool) : Nat → Nat
  | 0 => 0
  | n + 1 => cntN f n + (if f n = true then 1 else 0)
def sumR (g : Nat → Int) : Nat → Int
  | 0 => 0
  | n + 1 => sumR g n + g n
theorem sumR_congr {g h : Nat → Int} : ∀ {n : Nat}, (∀ j, j < n → g j = h j) → sumR g n = sumR h n
  | 0, _ => rfl
  | n + 1, e => by
    show sumR g n + g n = sumR h n + h n
    rw [sumR_congr fun j hj => e j (Nat.lt_succ_of_lt hj), e n (Nat.lt_succ_self n)]
theorem sumR_one {g h : Nat → Int} {i : Nat} : ∀ {n : Nat}, i < n → (∀ j, j < n → j ≠ i → g j = h j) → sumR g n = sumR h n + (g i - h i)
  | 0, hi, _ => absurd hi (Nat.not_lt_zero _)
  | n + 1, hi, e => by
    show sumR g n + g n = sumR h n + h n + (g i - h i)
    by_cases c : i = n
    · subst c
      rw [sumR_congr fun j hj => e j (Nat.lt_succ_of_lt hj) (Nat.ne_of_lt hj)]
      omega
    · rw [sumR_one (i := i) (by omega) fun j hj ne => e j (Nat.lt_succ_of_lt hj) ne, e n (Nat.lt_succ_self n) (fun z => c z.symm)]
      omega
theorem cntN_succ (f : Nat → Bool) (n : Nat) : cntN f (n + 1) = cntN f n + (if f n = true then 1 else 0) := rfl
/-- the lengths up to a limit, by what is left over of them -/
theorem cnt_once (f : Nat → Bool) {k : Nat} (hk : 2 ≤ k) : ∀ lim : Nat, ((cntN (fun x => f (onceN x k)) (lim + 1) : Nat) : Int) = sumR (fun left => ((cntN f ((lim - left) / k + left + 1) : Nat) : Int) - ((cntN f left : Nat) : Int)) (min k (lim + 1))
  | 0 => by
    rw [Nat.min_eq_right (by omega)]
    show (((0 : Nat) + (if f (onceN 0 k) = true then 1 else 0) : Nat) : Int) = 0 + (((cntN f ((0 - 0) / k + 0 + 1) : Nat) : Int) - ((0 : Nat) : Int))
    have e : onceN 0 k = 0 := by unfold onceN; simp
    have e2 : (0 - 0) / k + 0 + 1 = 1 := by simp
    rw [e, e2]
    show (((0 : Nat) + (if f 0 = true then 1 else 0) : Nat) : Int) = 0 + ((((0 : Nat) + (if f 0 = true then 1 else 0) : Nat) : Int) - ((0 : Nat) : Int))
    omega
  | lim + 1 => by
    have ih := cnt_once f hk lim
    rw [cntN_succ (fun x => f (onceN x k)) (lim + 1)]
    rw [Int.natCast_add, ih]
    by_cases c : lim + 1 < k
    · rw [Nat.min_eq_right (by omega), Nat.min_eq_right (by omega)]
      show _ = sumR _ (lim + 1) + (((cntN f ((lim + 1 - (lim + 1)) / k + (lim + 1) + 1) : Nat) : Int) - ((cntN f (lim + 1) : Nat) : Int))
      have e : onceN (lim + 1) k = lim + 1 := by
        unfold onceN
        rw [Nat.div_eq_of_lt c, Nat.mod_eq_of_lt c, Nat.zero_add]
      have e2 : (lim + 1 - (lim + 1)) / k + (lim + 1) + 1 = (lim + 1) + 1 := by
        rw [Nat.sub_self, Nat.zero_div, Nat.zero_add]
      rw [e, e2, cntN_succ f (lim + 1)]
      have same : sumR (fun left => ((cntN f ((lim - left) / k + left + 1) : Nat) : Int) - ((cntN f left : Nat) : Int)) (lim + 1) = sumR (fun left => ((cntN f ((lim + 1 - left) / k + left + 1) : Nat) : Int) - ((cntN f left : Nat) : Int)) (lim + 1) :=
        sumR_congr fun j hj => by
          rw [Nat.div_eq_of_lt (show lim - j < k by omega), Nat.div_eq_of_lt (show lim + 1 - j < k by omega)]
      rw [same]
      omega
    · rw [Nat.min_eq_left (by omega), Nat.min_eq_left (by omega)]
      have hlt : (lim + 1) % k < k := Nat.mod_lt _ (by omega)
      obtain ⟨l0, el0⟩ : ∃ l0, l0 = (lim + 1) % k := ⟨_, rfl⟩
      obtain ⟨q, eq⟩ : ∃ q, q = (lim + 1) / k := ⟨_, rfl⟩
      have de : lim + 1 = k * q + l0 := by rw [el0, eq]; exact (Nat.div_add_mod _ _).symm
      have q1 : 1 ≤ q := by rw [eq]; exact (Nat.le_div_iff_mul_le (by omega)).mpr (by omega)
      obtain ⟨q', rfl⟩ : ∃ q', q = q' + 1 := ⟨q - 1, by omega⟩
      have l0k : l0 < k := by rw [el0]; exact hlt
      have kq : k * (q' + 1) = k * q' + k := Nat.mul_succ k q'
      have d1 : (lim + 1 - l0) / k = q' + 1 := by
        rw [show lim + 1 - l0 = k * (q' + 1) by omega]
        exact Nat.mul_div_cancel_left _ (by omega)
      have d0 : (lim - l0) / k = q' := by
        rw [show lim - l0 = (k - 1) + k * q' by omega, Nat.add_mul_div_left _ _ (by omega), Nat.div_eq_of_lt (by omega), Nat.zero_add]
      have diff := sumR_one (g := fun left => ((cntN f ((lim + 1 - left) / k + left + 1) : Nat) : Int) - ((cntN f left : Nat) : Int)) (h := fun left => ((cntN f ((lim - left) / k + left + 1) : Nat) : Int) - ((cntN f left : Nat) : Int)) (i := l0) (n := k) l0k (fun j hj ne => by
        have e : (lim + 1 - j) / k = (lim - j) / k := by
          have hjl : j ≤ lim := by omega
          -- k doesn't divide lim + 1 - j
          have nd : (lim + 1 - j) % k ≠ 0 := fun z => by
            apply ne
            have m := Nat.div_add_mod (lim + 1 - j) k
            rw [z, Nat.add_zero] at m
            have e2 : lim + 1 = j + k * ((lim + 1 - j) / k) := by omega
            have : (lim + 1) % k = j := by rw [e2, Nat.add_mul_mod_self_left, Nat.mod_eq_of_lt hj]
            rw [el0, this]
          rw [show lim + 1 - j = (lim - j) + 1 by omega] at nd ⊢
          rw [Nat.succ_div]
          rw [if_neg (fun z => nd (Nat.mod_eq_zero_of_dvd z)), Nat.add_zero]
        show ((cntN f ((lim + 1 - j) / k + j + 1) : Nat) : Int) - _ = _
        rw [e])
      rw [diff]
      show _ = _ + ((((cntN f ((lim + 1 - l0) / k + l0 + 1) : Nat) : Int) - ((cntN f l0 : Nat) : Int)) - (((cntN f ((lim - l0) / k + l0 + 1) : Nat) : Int) - ((cntN f l0 : Nat) : Int)))
      rw [d1, d0]
      have eo : onceN (lim + 1) k = q' + 1 + l0 := by
        unfold onceN
        rw [← eq, ← el0]
      rw [eo, show q' + 1 + l0 + 1 = (q' + 1 + l0) + 1 from rfl, cntN_succ f (q' + 1 + l0), show q' + l0 + 1 = q' + 1 + l0 by omega]
      omega
end Sq
set_option Elab.async false
set_option linter.all false
set_option maxRecDepth 100000
set_option maxHeartbeats 4000000
/-! {e for a in xs for b in ys}, e an int: over the library's rules of the same with a list. -/
set_option Elab.async false
set_option linter.all false
/-! The best replacements, in plain Lean. -/
namespace Sq
def low (R : Int) : Int := (R + 3) / 2
def grow (R : Int) : Int := rw1 (low R) R
def up : Nat → Int → Int
  | 0, v => v
  | n + 1, v => grow (up n v)
end Sq
set_option Elab.async false
set_option linter.all false
set_option maxHeartbeats 1000000
/-! Choices counted: the longest run after a replacement, and how many choices are good. -/
namespace Sq
def la (L k : Int) : Int := if k > L then L else (L + 1) / k + k - 2
/-- 2, 3, .., g -/
def cand (g : Int) : List Int := (List.range (g - 1).toNat).map fun i : Nat => 2 + (i : Int)
def cnt (g : Int) : Nat → Int → Nat
  | 0, L => if L ≤ 1 then 1 else 0
  | n + 1, L => ((cand g).map fun k => cnt g n (la L k)).sum
end Sq
set_option Elab.async false
set_option linter.all false
/-! One of each choice, by its place. -/
namespace Sq
def Full (cs : List (List Int)) : Prop := ∀ c ∈ cs, 0 < c.length
theorem Full.hd {c : List Int} {cs : List (List Int)} (h : Full (c :: cs)) : 0 < c.length := h c (List.mem_cons_self ..)
end Sq
set_option Elab.async false
set_option linter.all false
set_option maxRecDepth 100000
set_option maxHeartbeats 1000000
/-! `for` in a generator's body, with yields in its suite. -/
namespace PySem
open Sem (wp)
end PySem
namespace L2
open PySem PySem.Spec PyProof.Rows GenW
end L2
set_option Elab.async false
set_option linter.all false
set_option maxRecDepth 100000
set_option maxHeartbeats 2000000
/-! Lists of lists of ints; a walk in a generator. -/
namespace Sq
open PySem PySem.Spec PyProof.Rows L2
/-- at each of them stands its list of ints -/
def RowsAt (H : Hp) : List Addr → List (List Int) → Prop
  | [], [] => True
  | a :: as, c :: cs => H a = some (.lst (c.map V.int)) ∧ RowsAt H as cs
  | _, _ => False
theorem RowsAt.same {H H' : Hp} (s : Same H H') : ∀ {as : List Addr} {cs : List (List Int)}, RowsAt H as cs → RowsAt H' as cs
  | [], [], _ => trivial
  | _ :: _, _ :: _, h => ⟨s _ _ h.1, RowsAt.same s h.2⟩
  | [], _ :: _, h => h.elim
  | _ :: _, [], h => h.elim
theorem RowsAt.len {H : Hp} : ∀ {as : List Addr} {cs : List (List Int)}, RowsAt H as cs → as.length = cs.length
  | [], [], _ => rfl
  | _ :: _, _ :: _, h => congrArg Nat.succ (RowsAt.len h.2)
  | [], _ :: _, h => h.elim
  | _ :: _, [], h => h.elim
theorem RowsAt.app {H : Hp} : ∀ {as : List Addr} {cs : List (List Int)} {bs : List Addr} {ds : List (List Int)}, RowsAt H as cs → RowsAt H bs ds → RowsAt H (as ++ bs) (cs ++ ds)
  | [], [], _, _, _, h2 => h2
  | _ :: _, _ :: _, _, _, h, h2 => ⟨h.1, RowsAt.app h.2 h2⟩
  | [], _ :: _, _, _, h, _ => h.elim
  | _ :: _, [], _, _, h, _ => h.elim
theorem RowsAt.get {H : Hp} : ∀ {as : List Addr} {cs : List (List Int)} {i : Nat} {c : List Int}, RowsAt H as cs → cs[i]? = some c → ∃ a, as[i]? = some a ∧ H a = some (.lst (c.map V.int))
  | _ :: _, _ :: _, 0, _, h, e => by
    cases e
    exact ⟨_, rfl, h.1⟩
  | _ :: _, _ :: _, i + 1, _, h, e => RowsAt.get (i := i) h.2 e
  | [], _ :: _, _, _, h, _ => h.elim
  | _, [], _, _, _, e => by simp at e
theorem RowsAt.upd {H : Hp} {p : Addr} {o : HO} : ∀ {as : List Addr} {cs : List (List Int)}, RowsAt H as cs → p ∉ as → RowsAt (upd H p o) as cs
  | [], [], _, _ => trivial
  | a :: _, _ :: _, h, n => ⟨by rw [upd_ne (fun z => n (by rw [z]; exact List.mem_cons_self ..))]; exact h.1, RowsAt.upd h.2 (fun z => n (List.mem_cons_of_mem _ z))⟩
  | [], _ :: _, h, _ => h.elim
  | _ :: _, [], h, _ => h.elim
/-- what they hold, as data -/
def dRows (cs : List (List Int)) : List PyData := cs.map fun c => PyData.list (c.map PyData.int)
theorem dp_rows {K : PySem.W.Frag} {H : Hp} : ∀ {as : List Addr} {cs : List (List Int)}, RowsAt H as cs → DpAll K H (as.map V.ref) (dRows cs)
  | [], [], _ => .nil
  | _ :: _, c :: _, h => .cons (.lst (SqL.of h.1) (dp_ints c)) (dp_rows h.2)
  | [], _ :: _, h => h.elim
  | _ :: _, [], h => h.elim
end Sq
set_option Elab.async false
set_option linter.all false
set_option maxRecDepth 100000
set_option maxHeartbeats 1000000
/-! Walks with an open step; members without doubles; the lengths by place. -/
namespace Sq
open PySem PySem.Spec PyProof.Rows L2
/-! ### without doubles -/
def dd (vs : List Int) : List Int := vs.foldl (fun ds x => if x ∈ ds then ds else ds ++ [x]) []
/-! ### the lengths by place -/
structure Lens (n : Nat) (g L : Int) (i : Nat) (rows : List (List Int)) : Prop where
  len : rows.length = i + 1
  zero : rows[0]? = some [L]
  asc : ∀ (p : Nat) (r : List Int), rows[p]? = some r → r.Pairwise (· < ·)
  mem : ∀ (p : Nat) (r : List Int), rows[p]? = some r → ∀ x ∈ r, 0 ≤ x ∧ x ≤ L
  next : ∀ (p : Nat) (r r' : List Int), rows[p]? = some r → rows[p + 1]? = some r' → ∀ x, x ∈ r' ↔ (∃ l ∈ r, ∃ k, 2 ≤ k ∧ k ≤ g ∧ x = la l k) ∧ x ≤ up (n - (p + 1)) 1
  short : L < 63 ∨ ∀ (p : Nat) (r : List Int), rows[p]? = some r → r.length ≤ 6
theorem Lens.start {n : Nat} {g L : Int} (h0 : 0 ≤ L) : Lens n g L 0 [[L]] where
  len := rfl
  zero := rfl
  asc := fun p r e => by
    match p, e with
    | 0, e => cases e; exact List.pairwise_singleton _ _
  mem := fun p r e x hx => by
    match p, e with
    | 0, e =>
      cases e
      rw [List.mem_singleton.mp hx]
      exact ⟨h0, Int.le_refl _⟩
  next := fun p r r' e e' => by
    match p, e' with
    | 0, e' => cases e'
    | p + 1, e' => cases e'
  short := .inr fun p r e => by
    match p, e with
    | 0, e => cases e; exact (show 1 ≤ 6 by decide)
end Sq
set_option Elab.async false
set_option linter.all false
set_option maxRecDepth 100000
set_option maxHeartbeats 1000000
/-! A dict of limits, each with how often it counts: what it says of a length. -/
namespace Sq
open PySem PySem.Spec PyProof.Rows L2
/-! ### dicts from ints to ints -/
def kvZ (kz : List (Int × Int)) : List (Key × V) := kz.map fun p => (.inl p.1, .int p.2)
def getZ (kz : List (Int × Int)) (k : Int) : Int := ((kz.find? fun p => decide (p.1 = k)).map (·.2)).getD 0
def putZ (kz : List (Int × Int)) (k v : Int) : List (Int × Int) := if (kz.any fun p => decide (p.1 = k)) = true then kz.map (fun p => if p.1 = k then (p.1, v) else p) else kz ++ [(k, v)]
def addZ (kz : List (Int × Int)) (k d : Int) : List (Int × Int) := putZ kz k (getZ kz k + d)
def keysZ (kz : List (Int × Int)) : List Int := kz.map (·.1)
def one (b : Bool) : Int := if b = true then 1 else 0
def mZ (kz : List (Int × Int)) (L : Int) : Int := (kz.map fun p => p.2 * one (decide (L ≤ p.1))).sum
theorem valV_kvZ (k : Int) : ∀ kz : List (Int × Int), valV (kvZ kz) (.inl k) = (kz.find? fun p => decide (p.1 = k)).map fun p => V.int p.2
  | [] => rfl
  | p :: kz => by
    show valV ((.inl p.1, .int p.2) :: kvZ kz) (.inl k) = _
    by_cases c : p.1 = k
    · rw [valV_pos (by rw [c]), List.find?_cons_of_pos (by exact decide_eq_true c)]
      rfl
    · rw [valV_neg (by intro z; exact c (Sum.inl.inj z)), valV_kvZ k kz, List.find?_cons_of_neg (by intro z; exact c (of_decide_eq_true z))]
theorem get_kvZ (kz : List (Int × Int)) (k : Int) : (valV (kvZ kz) (.inl k)).getD (.int 0) = .int (getZ kz k) := by
  rw [valV_kvZ]
  unfold getZ
  cases kz.find? fun p => decide (p.1 = k) with
  | none => rfl
  | some p => rfl
theorem put_kvZ (kz : List (Int × Int)) (k v : Int) : putK (kvZ kz) (.inl k) (.int v) = kvZ (putZ kz k v) := by
  unfold putK putZ
  have e : (kvZ kz).any (fun kv => decide (kv.1 = (.inl k : Key))) = kz.any fun p => decide (p.1 = k) := by
    unfold kvZ
    rw [List.any_map]
    congr 1
    funext p
    show decide ((.inl p.1 : Key) = .inl k) = decide (p.1 = k)
    rw [decide_eq_decide]
    exact ⟨fun z => Sum.inl.inj z, fun z => by rw [z]⟩
  rw [e]
  by_cases c : (kz.any fun p => decide (p.1 = k)) = true
  · rw [if_pos c, if_pos c]
    unfold kvZ
    rw [List.map_map, List.map_map]
    apply List.map_congr_left
    intro p _
    show (if (.inl p.1 : Key) = .inl k then ((.inl p.1 : Key), V.int v) else (.inl p.1, .int p.2)) = ((.inl (if p.1 = k then (p.1, v) else p).1 : Key), V.int (if p.1 = k then (p.1, v) else p).2)
    by_cases e : p.1 = k
    · rw [if_pos (by rw [e]), if_pos e]
    · rw [if_neg (fun z => e (Sum.inl.inj z)), if_neg e]
  · rw [if_neg c, if_neg c]
    unfold kvZ
    rw [List.map_append]
    rfl
theorem keys_put (kz : List (Int × Int)) (k v : Int) : keysZ (putZ kz k v) = if k ∈ keysZ kz then keysZ kz else keysZ kz ++ [k] := by
  unfold putZ
  have e : (kz.any fun p => decide (p.1 = k)) = true ↔ k ∈ keysZ kz := by
    unfold keysZ
    rw [List.any_eq_true]
    constructor
    · rintro ⟨p, hp, h⟩
      exact List.mem_map.mpr ⟨p, hp, of_decide_eq_true h⟩
    · intro h
      obtain ⟨p, hp, e⟩ := List.mem_map.mp h
      exact ⟨p, hp, decide_eq_true e⟩
  by_cases c : (kz.any fun p => decide (p.1 = k)) = true
  · rw [if_pos c, if_pos (e.mp c)]
    unfold keysZ
    rw [List.map_map]
    apply List.map_congr_left
    intro p _
    show (if p.1 = k then (p.1, v) else p).1 = p.1
    split <;> rfl
  · rw [if_neg c, if_neg (fun z => c (e.mpr z))]
    unfold keysZ
    rw [List.map_append]
    rfl
theorem nodup_put {kz : List (Int × Int)} {k v : Int} (h : (keysZ kz).Nodup) : (keysZ (putZ kz k v)).Nodup := by
  rw [keys_put]
  split
  · exact h
  · rename_i n
    rw [List.nodup_append]
    refine ⟨h, by simp, fun a ha b hb => ?_⟩
    rw [List.mem_singleton.mp hb]
    intro z
    exact n (by rw [← z]; exact ha)
theorem mem_put {kz : List (Int × Int)} {k v x : Int} (h : x ∈ keysZ (putZ kz k v)) : x ∈ keysZ kz ∨ x = k := by
  rw [keys_put] at h
  split at h
  · exact .inl h
  · rcases List.mem_append.mp h with h | h
    · exact .inl h
    · exact .inr (List.mem_singleton.mp h)
theorem mZ_cons (p : Int × Int) (kz : List (Int × Int)) (L : Int) : mZ (p :: kz) L = p.2 * one (decide (L ≤ p.1)) + mZ kz L := by
  unfold mZ
  rw [List.map_cons, List.sum_cons]
/-- a key is told more or less often -/
theorem mZ_add : ∀ {kz : List (Int × Int)} (k d L : Int), (keysZ kz).Nodup → mZ (addZ kz k d) L = mZ kz L + d * one (decide (L ≤ k))
  | [], k, d, L, _ => by
    show mZ [(k, 0 + d)] L = mZ [] L + _
    rw [mZ_cons, Int.zero_add]
    show d * one (decide (L ≤ k)) + mZ [] L = _
    omega
  | p :: kz, k, d, L, h => by
    have hn : p.1 ∉ keysZ kz ∧ (keysZ kz).Nodup := List.nodup_cons.mp h
    unfold addZ
    by_cases c : p.1 = k
    · have eg : getZ (p :: kz) k = p.2 := by
        unfold getZ
        rw [List.find?_cons_of_pos (by exact decide_eq_true c)]
        rfl
      have ep : putZ (p :: kz) k (p.2 + d) = (p.1, p.2 + d) :: kz := by
        unfold putZ
        rw [if_pos (by rw [List.any_cons, decide_eq_true c]; rfl), List.map_cons, if_pos c]
        congr 1
        rw [List.map_congr_left (g := id)]
        · exact List.map_id _
        · intro q hq
          rw [if_neg]
          · rfl
          · intro z
            exact hn.1 (by rw [c, ← z]; exact List.mem_map.mpr ⟨q, hq, rfl⟩)
      rw [eg, ep, mZ_cons, mZ_cons]
      show (p.2 + d) * one (decide (L ≤ p.1)) + mZ kz L = _
      rw [Int.add_mul, c]
      omega
    · have eg : getZ (p :: kz) k = getZ kz k := by
        unfold getZ
        rw [List.find?_cons_of_neg (by intro z; exact c (of_decide_eq_true z))]
      have ep : putZ (p :: kz) k (getZ kz k + d) = p :: putZ kz k (getZ kz k + d) := by
        unfold putZ
        rw [List.any_cons, decide_eq_false c, Bool.false_or]
        split
        · rw [List.map_cons, if_neg c]
        · rfl
      have ih := mZ_add (kz := kz) k d L hn.2
      unfold addZ at ih
      rw [eg, ep, mZ_cons, ih, mZ_cons]
      omega
theorem mZ_filter : ∀ (kz : List (Int × Int)) (L : Int), mZ (kz.filter fun p => !decide (p.2 = 0)) L = mZ kz L
  | [], _ => rfl
  | p :: kz, L => by
    rw [mZ_cons]
    by_cases c : p.2 = 0
    · rw [List.filter_cons_of_neg (by rw [c]; decide), mZ_filter kz L, c, Int.zero_mul, Int.zero_add]
    · rw [List.filter_cons_of_pos (by simp [c]), mZ_cons, mZ_filter kz L]
/-! ### counts -/
theorem cnt_eq (L : Nat) : ∀ n : Nat, ((cntN (fun y => decide (y = L)) n : Nat) : Int) = one (decide (L < n))
  | 0 => rfl
  | n + 1 => by
    rw [cntN_succ, Int.natCast_add, cnt_eq L n]
    unfold one
    by_cases c : n = L
    · subst c
      simp
    · by_cases d : L < n
      · simp [c, d, Nat.lt_succ_of_lt d]
      · have : ¬ L < n + 1 := by omega
        simp [c, d, this]
theorem sumR_point (g : Nat → Bool) (v : Nat) : ∀ n : Nat, sumR (fun y => one (decide (v = y)) * one (g y)) n = if v < n then one (g v) else 0
  | 0 => rfl
  | n + 1 => by
    show sumR _ n + one (decide (v = n)) * one (g n) = _
    rw [sumR_point g v n]
    by_cases c : v = n
    · subst c
      rw [if_neg (Nat.lt_irrefl _), if_pos (Nat.lt_succ_self _), decide_eq_true rfl]
      show 0 + 1 * one (g v) = _
      omega
    · rw [decide_eq_false c]
      show _ + 0 * one (g n) = _
      rw [Int.zero_mul, Int.add_zero]
      by_cases d : v < n
      · rw [if_pos d, if_pos (Nat.lt_succ_of_lt d)]
      · rw [if_neg d, if_neg (by omega)]
theorem sumR_add {g h : Nat → Int} : ∀ n : Nat, sumR (fun y => g y + h y) n = sumR g n + sumR h n
  | 0 => rfl
  | n + 1 => by
    show sumR _ n + (g n + h n) = (sumR g n + g n) + (sumR h n + h n)
    rw [sumR_add n]
    omega
theorem sumR_mul {g : Nat → Int} (m : Int) : ∀ n : Nat, sumR (fun y => m * g y) n = m * sumR g n
  | 0 => by
    show (0 : Int) = m * 0
    rw [Int.mul_zero]
  | n + 1 => by
    show sumR _ n + m * g n = m * (sumR g n + g n)
    rw [sumR_mul m n, Int.mul_add]
/-- counted by what they become -/
theorem cnt_by (s : Nat → Nat) (g : Nat → Bool) (B : Nat) : ∀ n : Nat, (∀ x, x < n → s x < B) → ((cntN (fun x => g (s x)) n : Nat) : Int) = sumR (fun y => ((cntN (fun x => decide (s x = y)) n : Nat) : Int) * one (g y)) B
  | 0, _ => by
    have : ∀ B, sumR (fun y => (((0 : Nat)) : Int) * one (g y)) B = 0 := fun B => by
      induction B with
      | zero => rfl
      | succ B ih =>
        show sumR _ B + _ = 0
        rw [ih]
        show 0 + 0 * one (g B) = 0
        omega
    exact (this B).symm
  | n + 1, h => by
    rw [cntN_succ, Int.natCast_add, cnt_by s g B n fun x hx => h x (Nat.lt_succ_of_lt hx)]
    have e : sumR (fun y => ((cntN (fun x => decide (s x = y)) (n + 1) : Nat) : Int) * one (g y)) B = sumR (fun y => ((cntN (fun x => decide (s x = y)) n : Nat) : Int) * one (g y) + one (decide (s n = y)) * one (g y)) B :=
      sumR_congr fun y _ => by
        rw [cntN_succ, Int.natCast_add, Int.add_mul]
        congr 1
        by_cases c : s n = y
        · rw [decide_eq_true c]; rfl
        · rw [decide_eq_false c]; rfl
    rw [e, sumR_add, sumR_point, if_pos (h n (Nat.lt_succ_self n))]
    congr 1
    unfold one
    split <;> rfl
/-- up to a limit -/
theorem sumR_lim (g : Nat → Bool) (lim : Int) (h0 : -1 ≤ lim) : ∀ B : Nat, sumR (fun y => one (decide ((y : Int) ≤ lim)) * one (g y)) B = ((cntN g (min B (lim + 1).toNat) : Nat) : Int)
  | 0 => by
    rw [Nat.zero_min]
    rfl
  | B + 1 => by
    show sumR _ B + one (decide ((B : Int) ≤ lim)) * one (g B) = _
    rw [sumR_lim g lim h0 B]
    by_cases c : (B : Int) ≤ lim
    · rw [decide_eq_true c, Nat.min_eq_left (by omega), Nat.min_eq_left (by omega), cntN_succ, Int.natCast_add]
      congr 1
      show 1 * one (g B) = _
      rw [Int.one_mul]
      unfold one
      split <;> rfl
    · rw [decide_eq_false c, Nat.min_eq_right (by omega), Nat.min_eq_right (by omega)]
      show _ + 0 * one (g B) = _
      omega
/-- what the dict says of the lengths, summed -/
theorem mZ_sum (g : Nat → Bool) (B : Nat) : ∀ (kz : List (Int × Int)), (∀ p ∈ kz, -1 ≤ p.1 ∧ p.1 < (B : Int)) → sumR (fun y => mZ kz (y : Int) * one (g y)) B = (kz.map fun p => p.2 * ((cntN g (p.1 + 1).toNat : Nat) : Int)).sum
  | [], _ => by
    have : ∀ B, sumR (fun y : Nat => mZ [] (y : Int) * one (g y)) B = 0 := fun B => by
      induction B with
      | zero => rfl
      | succ B ih =>
        show sumR _ B + _ = 0
        rw [ih]
        show 0 + 0 * one (g B) = 0
        omega
    exact this B
  | p :: kz, h => by
    have hp := h p List.mem_cons_self
    rw [List.map_cons, List.sum_cons, ← mZ_sum g B kz fun q hq => h q (List.mem_cons_of_mem _ hq)]
    have e : sumR (fun y : Nat => mZ (p :: kz) (y : Int) * one (g y)) B = sumR (fun y : Nat => p.2 * (one (decide ((y : Int) ≤ p.1)) * one (g y)) + mZ kz (y : Int) * one (g y)) B :=
      sumR_congr fun y _ => by
        rw [mZ_cons, Int.add_mul, Int.mul_assoc]
    rw [e, sumR_add, sumR_mul, sumR_lim g p.1 hp.1, Nat.min_eq_right (by omega)]
end Sq
set_option Elab.async false
set_option linter.all false
set_option maxRecDepth 100000
set_option maxHeartbeats 1000000
/-! One replacement more: the next dict of limits. -/
namespace Sq
open PySem PySem.Spec PyProof.Rows L2
def sN (x : Nat) (ks : List Int) : Nat := ks.foldl (fun n k => onceN n k.toNat) x
theorem once_nat (n : Nat) {k : Int} (hk : 0 ≤ k) : once (n : Int) k = ((onceN n k.toNat : Nat) : Int) := by
  obtain ⟨m, rfl⟩ : ∃ m : Nat, k = (m : Int) := ⟨k.toNat, by omega⟩
  unfold once onceN
  rw [Int.toNat_natCast, Int.natCast_add, Int.natCast_ediv, Int.natCast_emod]
theorem sq_nat : ∀ (ks : List Int) (x : Nat), (∀ k ∈ ks, 2 ≤ k) → sq (x : Int) ks = ((sN x ks : Nat) : Int)
  | [], x, _ => rfl
  | k :: ks, x, h => by
    have hk := h k List.mem_cons_self
    show sq (once (x : Int) k) ks = ((sN (onceN x k.toNat) ks : Nat) : Int)
    rw [once_nat x (by omega)]
    exact sq_nat ks _ fun q hq => h q (List.mem_cons_of_mem _ hq)
theorem sN_app (x : Nat) (ks : List Int) (k : Int) : sN x (ks ++ [k]) = onceN (sN x ks) k.toNat := by
  unfold sN
  rw [List.foldl_append]
  rfl
theorem onceN_le (n : Nat) {k : Nat} (hk : 2 ≤ k) : onceN n k ≤ n := by
  unfold onceN
  have e := Nat.div_add_mod n k
  have : n / k ≤ k * (n / k) := Nat.le_mul_of_pos_left _ (by omega)
  omega
theorem sN_le : ∀ (ks : List Int) (x : Nat), (∀ k ∈ ks, 2 ≤ k) → sN x ks ≤ x
  | [], x, _ => Nat.le_refl _
  | k :: ks, x, h => by
    have hk := h k List.mem_cons_self
    have a := onceN_le x (k := k.toNat) (by omega)
    have b := sN_le ks (onceN x k.toNat) fun q hq => h q (List.mem_cons_of_mem _ hq)
    exact Nat.le_trans b a
/-! ### the steps -/
def lng (lim k : Int) (j : Nat) : Int := (lim - (j : Int)) / k + (j : Int)
def inn (kz : List (Int × Int)) (lim m k : Int) : Nat → List (Int × Int)
  | 0 => kz
  | j + 1 => addZ (addZ (inn kz lim m k j) (lng lim k j) m) ((j : Int) - 1) (-m)
def rng1 (lim k : Int) : Nat := (min k (lim + 1)).toNat
def outF (k : Int) (ls : List (Int × Int)) : List (Int × Int) := ls.foldl (fun acc p => inn acc p.1 p.2 k (rng1 p.1 k)) []
def nextZ (k : Int) (ls : List (Int × Int)) : List (Int × Int) := (outF k ls).filter fun p => !decide (p.2 = 0)
theorem inn_nd {kz : List (Int × Int)} {lim m k : Int} (h : (keysZ kz).Nodup) : ∀ j, (keysZ (inn kz lim m k j)).Nodup
  | 0 => h
  | j + 1 => nodup_put (nodup_put (inn_nd h j))
theorem inn_mem {kz : List (Int × Int)} {lim m k x : Int} : ∀ j, x ∈ keysZ (inn kz lim m k j) → x ∈ keysZ kz ∨ ∃ i, i < j ∧ (x = lng lim k i ∨ x = (i : Int) - 1)
  | 0, h => .inl h
  | j + 1, h => by
    rcases mem_put h with h | h
    · rcases mem_put h with h | h
      · rcases inn_mem j h with h | ⟨i, hi, h⟩
        · exact .inl h
        · exact .inr ⟨i, Nat.lt_succ_of_lt hi, h⟩
      · exact .inr ⟨j, Nat.lt_succ_self j, .inl h⟩
    · exact .inr ⟨j, Nat.lt_succ_self j, .inr h⟩
theorem inn_M {kz : List (Int × Int)} {lim m k : Int} (h : (keysZ kz).Nodup) (L : Int) : ∀ j, mZ (inn kz lim m k j) L = mZ kz L + m * sumR (fun i => one (decide (L ≤ lng lim k i)) - one (decide (L ≤ (i : Int) - 1))) j
  | 0 => by
    show mZ kz L = mZ kz L + m * 0
    omega
  | j + 1 => by
    have ih := inn_M (kz := kz) (lim := lim) (m := m) (k := k) h L j
    show mZ (addZ (addZ (inn kz lim m k j) (lng lim k j) m) ((j : Int) - 1) (-m)) L = _
    rw [mZ_add _ _ _ (show (keysZ (addZ (inn kz lim m k j) (lng lim k j) m)).Nodup from nodup_put (inn_nd h j)), mZ_add _ _ _ (inn_nd h j), ih]
    show _ = mZ kz L + m * (sumR _ j + (one (decide (L ≤ lng lim k j)) - one (decide (L ≤ (j : Int) - 1))))
    rw [Int.mul_add, Int.mul_sub, Int.neg_mul]
    omega
theorem out_nd (k : Int) : ∀ (ls acc : List (Int × Int)), (keysZ acc).Nodup → (keysZ (ls.foldl (fun acc p => inn acc p.1 p.2 k (rng1 p.1 k)) acc)).Nodup
  | [], acc, h => h
  | p :: ls, acc, h => out_nd k ls _ (inn_nd h _)
def tT (lim k L : Int) : Int := sumR (fun i => one (decide (L ≤ lng lim k i)) - one (decide (L ≤ (i : Int) - 1))) (rng1 lim k)
theorem out_M (k L : Int) : ∀ (ls acc : List (Int × Int)), (keysZ acc).Nodup → mZ (ls.foldl (fun acc p => inn acc p.1 p.2 k (rng1 p.1 k)) acc) L = mZ acc L + (ls.map fun p => p.2 * tT p.1 k L).sum
  | [], acc, h => by
    show mZ acc L = mZ acc L + 0
    omega
  | p :: ls, acc, h => by
    show mZ (ls.foldl _ (inn acc p.1 p.2 k (rng1 p.1 k))) L = _
    rw [out_M k L ls _ (inn_nd h _), inn_M h, List.map_cons, List.sum_cons]
    show _ + p.2 * tT p.1 k L + _ = _
    omega
theorem tT_cnt {lim k : Int} (hk : 2 ≤ k) (h0 : -1 ≤ lim) (L : Nat) : tT lim k (L : Int) = ((cntN (fun y => decide (onceN y k.toNat = L)) (lim + 1).toNat : Nat) : Int) := by
  obtain ⟨kn, rfl⟩ : ∃ kn : Nat, k = (kn : Int) := ⟨k.toNat, by omega⟩
  rw [Int.toNat_natCast]
  by_cases c : lim = -1
  · subst c
    unfold tT rng1
    have e : (min (kn : Int) (-1 + 1)).toNat = 0 := by omega
    rw [e]
    rfl
  · obtain ⟨ln, rfl⟩ : ∃ ln : Nat, lim = (ln : Int) := ⟨lim.toNat, by omega⟩
    rw [show ((ln : Int) + 1).toNat = ln + 1 by omega, cnt_once (fun y => decide (y = L)) (by omega) ln]
    unfold tT rng1
    rw [show (min (kn : Int) ((ln : Int) + 1)).toNat = min kn (ln + 1) by omega]
    refine sumR_congr fun j hj => ?_
    have hj1 : j ≤ ln := by
      have := Nat.lt_of_lt_of_le hj (Nat.min_le_right _ _)
      omega
    rw [cnt_eq, cnt_eq]
    have e1 : lng (ln : Int) (kn : Int) j = (((ln - j) / kn + j : Nat) : Int) := by
      unfold lng
      rw [Int.natCast_add, Int.natCast_ediv, Int.ofNat_sub hj1]
    rw [e1]
    have a : decide ((L : Int) ≤ (((ln - j) / kn + j : Nat) : Int)) = decide (L < (ln - j) / kn + j + 1) := decide_eq_decide.mpr (by omega)
    have b : decide ((L : Int) ≤ (j : Int) - 1) = decide (L < j) := decide_eq_decide.mpr (by omega)
    rw [a, b]
/-! ### where the limits stand -/
def Win (A x : Int) : Prop := (-1 ≤ x ∧ x ≤ 60) ∨ (A ≤ x ∧ x ≤ A + 62)
theorem win_len {A : Int} {xs : List Int} (nd : xs.Nodup) (h : ∀ x ∈ xs, Win A x) : xs.length ≤ 200 := by
  have sub : xs ⊆ ((List.range 62).map fun i : Nat => (i : Int) - 1) ++ ((List.range 63).map fun i : Nat => A + (i : Int)) := fun x hx => by
    rcases h x hx with ⟨a, b⟩ | ⟨a, b⟩
    · exact List.mem_append_left _ (List.mem_map.mpr ⟨(x + 1).toNat, List.mem_range.mpr (by omega), by omega⟩)
    · exact List.mem_append_right _ (List.mem_map.mpr ⟨(x - A).toNat, List.mem_range.mpr (by omega), by omega⟩)
  have := List.Nodup.length_le_of_subset nd sub
  rw [List.length_append, List.length_map, List.length_map, List.length_range, List.length_range] at this
  omega
theorem win_next {A lim k : Int} (hA : 0 ≤ A) (hk : 2 ≤ k) (h30 : k ≤ 30) (h : Win A lim) {i : Nat} (hi : i < rng1 lim k) : Win (A / k) (lng lim k i) ∧ Win (A / k) ((i : Int) - 1) := by
  unfold rng1 at hi
  have i1 : (i : Int) < k := by omega
  have i2 : (i : Int) ≤ lim := by omega
  refine ⟨?_, .inl ⟨by omega, by omega⟩⟩
  unfold lng
  have q0 : 0 ≤ (lim - (i : Int)) / k := Int.ediv_nonneg (by omega) (by omega)
  have em := Int.mul_ediv_add_emod (lim - (i : Int)) k
  have m0 := Int.emod_nonneg (lim - (i : Int)) (show k ≠ 0 by omega)
  have m1 := Int.emod_lt_of_pos (lim - (i : Int)) (show 0 < k by omega)
  obtain ⟨q, eq⟩ : ∃ q, q = (lim - (i : Int)) / k := ⟨_, rfl⟩
  rw [← eq] at q0 em ⊢
  have q2 : 2 * q ≤ k * q := Int.mul_le_mul_of_nonneg_right hk q0
  rcases h with ⟨a, b⟩ | ⟨a, b⟩
  · exact .inl ⟨by omega, by omega⟩
  · -- beside A / k
    have ea := Int.mul_ediv_add_emod A k
    have n0 := Int.emod_nonneg A (show k ≠ 0 by omega)
    have n1 := Int.emod_lt_of_pos A (show 0 < k by omega)
    have p0 : 0 ≤ A / k := Int.ediv_nonneg hA (by omega)
    obtain ⟨p, ep⟩ : ∃ p, p = A / k := ⟨_, rfl⟩
    rw [← ep] at ea p0 ⊢
    refine .inr ⟨?_, ?_⟩
    · -- p ≤ q + i
      have : k * p ≤ k * (q + (i : Int)) + (k - 1) := by
        have : (i : Int) ≤ k * (i : Int) := by
          have := Int.mul_le_mul_of_nonneg_right (show 1 ≤ k by omega) (show 0 ≤ (i : Int) by omega)
          omega
        rw [Int.mul_add]
        omega
      have lt : k * p < k * (q + (i : Int) + 1) := by
        rw [Int.mul_add, Int.mul_one]
        omega
      have := Int.lt_of_mul_lt_mul_left lt (by omega)
      omega
    · -- q + i ≤ p + 62
      have h1 : k * (q - p) ≤ 62 + k := by
        rw [Int.mul_sub]
        omega
      by_cases c : q - p ≤ 32
      · omega
      · have : 2 * (q - p) ≤ k * (q - p) := Int.mul_le_mul_of_nonneg_right hk (by omega)
        have : k * 33 ≤ k * (q - p) := Int.mul_le_mul_of_nonneg_left (by omega) (by omega)
        omega
/-- the dict of limits says of every length how many runs up to the last one have it after these replacements -/
structure LimOk (ks : List Int) (last : Nat) (kz : List (Int × Int)) : Prop where
  nd : (keysZ kz).Nodup
  win : ∃ A : Int, 0 ≤ A ∧ A ≤ (last : Int) ∧ ∀ x ∈ keysZ kz, Win A x
  tells : ∀ y : Nat, mZ kz (y : Int) = ((cntN (fun x => decide (sN x ks = y)) (last + 1) : Nat) : Int)
theorem lim_start (last : Nat) : LimOk [] last [((last : Int), 1)] := by
  refine ⟨by simp [keysZ], ⟨(last : Int), by omega, Int.le_refl _, fun x hx => ?_⟩, fun y => ?_⟩
  · have : x = (last : Int) := List.mem_singleton.mp hx
    rw [this]
    exact .inr ⟨Int.le_refl _, by omega⟩
  · rw [mZ_cons]
    show 1 * one (decide ((y : Int) ≤ (last : Int))) + 0 = _
    have e : (fun x => decide (sN x [] = y)) = fun x => decide (x = y) := rfl
    rw [e, cnt_eq, Int.one_mul, Int.add_zero]
    congr 1
    exact decide_eq_decide.mpr (by omega)
theorem outF_win {A k : Int} (hA : 0 ≤ A) (hk : 2 ≤ k) (h30 : k ≤ 30) : ∀ (ls acc : List (Int × Int)), (∀ x ∈ keysZ ls, Win A x) → (∀ x ∈ keysZ acc, Win (A / k) x) → ∀ x ∈ keysZ (ls.foldl (fun acc p => inn acc p.1 p.2 k (rng1 p.1 k)) acc), Win (A / k) x
  | [], acc, _, h => h
  | p :: ls, acc, hl, h => outF_win hA hk h30 ls _ (fun x hx => hl x (List.mem_cons_of_mem _ hx)) fun x hx => by
    rcases inn_mem _ hx with z | ⟨i, hi, z⟩
    · exact h x z
    · have w := win_next hA hk h30 (hl p.1 List.mem_cons_self) hi
      rcases z with z | z
      · rw [z]; exact w.1
      · rw [z]; exact w.2
theorem keys_filter {f : Int × Int → Bool} {kz : List (Int × Int)} {x : Int} (h : x ∈ keysZ (kz.filter f)) : x ∈ keysZ kz := by
  obtain ⟨p, hp, e⟩ := List.mem_map.mp h
  exact List.mem_map.mpr ⟨p, (List.mem_filter.mp hp).1, e⟩
theorem lim_next {ks : List Int} {last : Nat} {kz : List (Int × Int)} {k : Int} (S : LimOk ks last kz) (hks : ∀ x ∈ ks, 2 ≤ x) (hk : 2 ≤ k) (h30 : k ≤ 30) : LimOk (ks ++ [k]) last (nextZ k kz) := by
  obtain ⟨A, hA, hAl, win⟩ := S.win
  have nd0 : (keysZ []).Nodup := List.nodup_nil
  have w := outF_win hA hk h30 kz [] win (fun x hx => nomatch hx)
  refine ⟨?_, ⟨A / k, Int.ediv_nonneg hA (by omega), ?_, fun x hx => w x (keys_filter hx)⟩, fun L => ?_⟩
  · have n := out_nd k kz [] nd0
    unfold nextZ keysZ
    exact List.Nodup.sublist (List.Sublist.map _ List.filter_sublist) n
  · have := Int.ediv_le_self k hA
    omega
  · unfold nextZ
    rw [mZ_filter]
    show mZ (kz.foldl _ []) (L : Int) = _
    rw [out_M k (L : Int) kz [] nd0]
    show 0 + _ = _
    rw [Int.zero_add]
    have b : ∀ p ∈ kz, -1 ≤ p.1 ∧ p.1 < ((last + 100 : Nat) : Int) := fun p hp => by
      rcases win p.1 (List.mem_map.mpr ⟨p, hp, rfl⟩) with z | z <;> omega
    have e1 : (kz.map fun p => p.2 * tT p.1 k (L : Int)) = kz.map fun p => p.2 * ((cntN (fun y => decide (onceN y k.toNat = L)) (p.1 + 1).toNat : Nat) : Int) :=
      List.map_congr_left fun p hp => by rw [tT_cnt hk (b p hp).1]
    rw [e1, ← mZ_sum _ (last + 100) kz b]
    have e2 : (fun x => decide (sN x (ks ++ [k]) = L)) = fun x => (fun y => decide (onceN y k.toNat = L)) (sN x ks) := by
      funext x
      rw [sN_app]
    rw [e2, cnt_by (fun x => sN x ks) (fun y => decide (onceN y k.toNat = L)) (last + 100) (last + 1) fun x hx => by
      have := sN_le ks x hks
      omega]
    exact sumR_congr fun y _ => by rw [S.tells y]
/-- how many runs up to the last one have a length -/
def cntO (L : Nat) (ks : List Int) (last : Nat) : Nat := cntN (fun x => decide (sN x ks = L)) (last + 1)
end Sq
set_option Elab.async false
set_option linter.all false
set_option maxRecDepth 100000
set_option maxHeartbeats 1000000
/-! What is asked of the handled error in its suite, whatever its class. -/
set_option Elab.async false
set_option linter.all false
set_option maxRecDepth 100000
set_option maxHeartbeats 1000000
/-! A def that may raise, called where it doesn't; keywords of such a def. -/
namespace Sq
open PySem PySem.Spec PyProof.Rows L2
theorem kbn_mk {K : PySem.W.Frag} {x qual : Str} {st : Stmt} {f : Addr} {fd : FuncData} {ps : List Str} (F : Fun K x qual st f fd) (ks : List Str) (g : List Value → List Value → List Value) (gV : List V → List V → List V)
    (rel : ∀ {vs : List V} {us : List Value} {zs : List V} {ws : List Value}, Vals vs us → Vals zs ws → Vals (gV vs zs) (g us ws))
    (h : ∀ (kV doc pm : Value) (an : Option Addr) (cdv ct : Value) (ws : List Value), ws.length = ks.length → bindArgs (PySem.W.fnOf x qual (defArgs st) (defBody st) (defScope st) .none kV doc pm an cdv ct) ⟨[], ks.zip ws⟩ = pure (ps.zip (g [] ws))) : KBn K fd ps 0 ks g gV := by
  obtain ⟨oc, od, kV, doc, pm, an, cdv, ct, osl, rfl, lk, hcd⟩ := F.ex
  refine ⟨fun s us ws X l1 l2 => ?_, rel⟩
  obtain rfl : us = [] := List.length_eq_zero_iff.mp l1
  exact .of_eq (h kV doc pm an cdv ct ws l2)
end Sq
set_option Elab.async false
set_option linter.all false
set_option maxRecDepth 100000
set_option maxHeartbeats 2000000
/-! Objects of an own class: made, their methods called, their properties read, where these may raise too. -/
set_option Elab.async false
set_option linter.all false
set_option maxRecDepth 100000
set_option maxHeartbeats 1000000
/-! a <= b <= c <= d as a test; the number of all origins. -/
set_option Elab.async false
set_option linter.all false
set_option maxRecDepth 100000
set_option maxHeartbeats 1000000
/-! The number of all origins, replacement by replacement. -/
namespace Sq
open PySem PySem.Spec PyProof.Rows L2
theorem sN_grow {ks : List Int} {x : Nat} (h : ∀ k ∈ ks, 2 ≤ k) : (x : Int) ≤ pro ks * ((sN x ks : Nat) : Int) := by
  rw [← sq_nat ks x h]
  exact sq_grow ks _ h (by omega)
theorem pro_cons' (k : Int) (ks : List Int) : pro (k :: ks) = k * pro ks := by
  have := pro_app [k] ks
  rw [show [k] ++ ks = k :: ks from rfl] at this
  rw [this, show pro [k] = 1 * k from rfl, Int.one_mul]
end Sq
set_option Elab.async false
set_option linter.all false
set_option maxRecDepth 100000
set_option maxHeartbeats 1000000
/-! yield from a list. -/
namespace L2
open PySem PySem.Spec PyProof.Rows GenW
section
variable {prog : Program} {w : World} {A : Around} {E : Value → Shared → Prop} {s : Shared}
theorem special_lst_item {it l : Addr} {i : Nat} {items : Array Value} {x : Value} {Q : Option Value → Shared → Prop} (hit : s.heap.IsListIter it l i) (hl : s.heap.IsList l items) (hx : items[i]? = some x)
    (hQ : ∀ h', h'.IsListIter it l (i + 1) → Heap.SameBut it s.heap h' → Q (some x) { s with heap := h' }) : wpAny (model prog w) A (callSpecial? (.ref it) "__next__") Q E s := by
  obtain ⟨o, ho, hc, hd⟩ := id hit
  obtain ⟨ol, hol, _, nl, hdl⟩ := hl
  refine wpAny_callSpecial?_slot (name := Str.ofString "__next__") hit.typeIs slot_listiter_next (wpAny_call_entry slot_listiter_next hit.typeIs entry_listiter_next ?_ (args_listiter_next _))
  show wpAny _ _ (field (.ref it) 0 >>= _) _ _ s
  refine wpAny_bind (wpAny_field ho hd (x := .ref l) rfl ?_)
  show wpAny _ _ (if (Value.ref l == Value.none) = true then _ else _) _ _ s
  rw [if_neg (show ¬ ((Value.ref l == Value.none) = true) from Bool.false_ne_true)]
  show wpAny _ _ (field (.ref it) 1 >>= _) _ _ s
  refine wpAny_bind (wpAny_field ho hd (x := .int i 0) rfl ?_)
  show wpAny _ _ (seqItems? (.ref l) >>= _) _ _ s
  refine wpAny_bind (wpAny_seqItems hol hdl ?_)
  simp only [Int.toNat_natCast, hx]
  refine wpAny_bind (wpAny_setField ho hd (by simp) (wpAny_pure ⟨x, rfl, hQ _ ?_ (Heap.SameBut.update ..)⟩))
  exact ⟨_, Heap.get?_update_self _ ho (Obj.isFreed_of_fields (Obj.data_mapFields hd _)), (Obj.cls_mapFields ..).trans hc, by
    rw [Obj.data_mapFields hd]; simp [rawInt]⟩
theorem special_lst_end {it l : Addr} {i : Nat} {items : Array Value} {Q : Option Value → Shared → Prop} (hh : A.handled = none) (hit : s.heap.IsListIter it l i) (hl : s.heap.IsList l items) (hx : items[i]? = none)
    (hE : ∀ e h', StopX e h' → Heap.ExtBut it s.heap h' → E e { s with heap := h' }) : wpAny (model prog w) A (callSpecial? (.ref it) "__next__") Q E s := by
  obtain ⟨o, ho, hc, hd⟩ := id hit
  obtain ⟨ol, hol, _, nl, hdl⟩ := hl
  refine wpAny_callSpecial?_slot (name := Str.ofString "__next__") hit.typeIs slot_listiter_next (wpAny_call_entry slot_listiter_next hit.typeIs entry_listiter_next ?_ (args_listiter_next _))
  show wpAny _ _ (field (.ref it) 0 >>= _) _ _ s
  refine wpAny_bind (wpAny_field ho hd (x := .ref l) rfl ?_)
  show wpAny _ _ (if (Value.ref l == Value.none) = true then _ else _) _ _ s
  rw [if_neg (show ¬ ((Value.ref l == Value.none) = true) from Bool.false_ne_true)]
  show wpAny _ _ (field (.ref it) 1 >>= _) _ _ s
  refine wpAny_bind (wpAny_field ho hd (x := .int i 0) rfl ?_)
  show wpAny _ _ (seqItems? (.ref l) >>= _) _ _ s
  refine wpAny_bind (wpAny_seqItems hol hdl ?_)
  simp only [Int.toNat_natCast, hx]
  refine wpAny_bind (wpAny_rule (wpAny_bind (wpAny_setField ho hd (by simp) ?_)))
  show wpAny _ _ (newExc (.type "StopIteration") [] >>= _) _ _ _
  refine wpAny_bind ?_
  simp only [newExc, newTuple]
  refine wpAny_bind (wpAny_newObj_type ?_ (by size_fits))
  refine wpAny_bind (m := firstArgMember _ _) (wpAny_of_eq (a := Value.none) (by first | rfl | (simp only [firstArgMember]; rfl)) ?_)
  refine wpAny_newObj_type ?_ (by size_fits)
  simp only [raiseNew]
  refine wpAny_bind (wpAny_handled ?_)
  first | rw [show A.in1.handled = none from hh] | rw [hh]
  refine wpAny_bind (wpAny_pure (wpAny_throw ?_))
  refine hE _ _ ⟨_, _, _, rfl, Heap.get?_push_size _ rfl, rfl, rfl, ?_⟩ (((Heap.SameBut.update ..).extBut.push _).push _)
  first
    | rfl
    | (rw [Array.getElem?_append_left (by decide)]; rfl)
    | kernel_rfl
end
section
variable {X : Cx} {e : Expr} {te : TE}
theorem pi_listK {tg l : Expr} {K0 : PySem.W.Frag} {tl : TE} (hK : X.K = K0) (hl : PE X l tl) : PI X tg l (iList K0 tl) := by
  subst hK
  exact pi_list hl
def tYfLst (te : TE) : TYf := fun σ H Q => te σ H fun x H1 => ∃ a xs, x = .ref a ∧ H1 a = some (.lst xs) ∧ Q xs H1
theorem close_lst : typeLookup (.type "list_iterator") "close" = pure none := by rw [typeLookup_type, builtinLookup_eq_fast]; kernel_rfl
theorem yf_lst (he : PE X e te) : YfE X e (tYfLst te) := by
  refine ⟨fun pins s σ H Q I h => ?_⟩
  refine thn (he.run pins s σ H _ I h) fun v s1 ⟨x, H1, I1, r1, a, xs, ex, ha, hq⟩ => ?_
  subst ex
  obtain rfl : v = Value.ref a := r1
  obtain ⟨its, rits, pl, hlen⟩ := I1.list (.inl (.inl ha))
  have ht := pl.isList
  refine ⟨"list", ht.typeIs, by decide, ?_⟩
  refine wpAny_pyIter_list ht ?_
  have ksz : ∀ b o, s1.heap.get? b = some o → b ≠ s1.heap.objs.size := fun b o e => Nat.ne_of_lt (Heap.lt_size e)
  have kp : ∀ b o, s1.heap.get? b = some o → (s1.heap.push { cls := .type "list_iterator", data := .fields #[.ref a, .int 0 0] }).get? b = some o := fun b o e => Heap.get?_push_of_some _ e
  refine ⟨s1.heap.objs.size, H1, xs, fun j h => h.IsListIter s1.heap.objs.size a j ∧ h.IsList a its.toArray, rfl, I1.kept (t' := s1.toks) kp, .inr I1.sz, Nat.ne_of_gt I1.lt, fun y c hy => ?_, I1.hok.fresh (Nat.le_refl _), fun p hp => ?_,
    ⟨⟨_, Heap.get?_push_size _ rfl, rfl, rfl⟩, ht.push _⟩, ⟨⟨"list_iterator", fun j h q => ?_, close_lst, by decide⟩, fun j h h' q hk => ?_, fun A' j x s2 Q' E' hA hx q hQ => ?_, fun A' s2 Q' E' hA q hE => ?_⟩, hq⟩
  · obtain ⟨v, o, ho, _⟩ := I1.cell y c hy
    exact ksz c o ho
  · exact ksz p.1 _ (I1.pin p hp).1
  · obtain ⟨⟨o, ho, hc, _⟩, _⟩ := q
    exact ⟨o, ho, hc⟩
  · obtain ⟨⟨o, ho, r⟩, o2, ho2, r2⟩ := q
    exact ⟨⟨o, hk _ o (.inl rfl) ho, r⟩, o2, hk _ o2 (.inr (by rw [ha]; exact fun z => by cases z)) ho2, r2⟩
  · obtain ⟨q1, q2⟩ := q
    obtain ⟨u, hu, ru⟩ := rits.get hx
    have hne : a ≠ s1.heap.objs.size := by
      obtain ⟨o, ho, _⟩ := ht
      exact ksz a o ho
    exact special_lst_item q1 q2 (x := u) (by simpa using hu) fun h' q1' hs => hQ u h' s2.toks ru ⟨q1', q2.extBut hs.extBut hne⟩ fun b o hb eb => hs.extBut b o hb eb
  · obtain ⟨q1, q2⟩ := q
    have hnone : its.toArray[xs.length]? = none := by
      have e := rits.length
      have e2 : its[xs.length]? = none := List.getElem?_eq_none_iff.mpr (by omega)
      simpa using e2
    exact special_lst_end hA q1 q2 hnone fun e h' hS hk => hE e h' s2.toks hS fun b o hb eb => hk b o hb eb
end
end L2
set_option Elab.async false
set_option linter.all false
set_option maxRecDepth 100000
set_option maxHeartbeats 1000000
/-! The origins, listed. -/
namespace Sq
open PySem PySem.Spec PyProof.Rows L2
def oneO (L k : Nat) : List Nat := (List.range (min k (L + 1))).map fun left => (L - left) * k + left
def orgs (L : Nat) (ks : List Int) : List Nat := ks.foldr (fun k fs => fs.flatMap fun a => oneO a k.toNat) [L]
theorem oneO_mem {L k x : Nat} (hk : 2 ≤ k) : x ∈ oneO L k ↔ onceN x k = L := by
  unfold oneO onceN
  rw [List.mem_map]
  constructor
  · rintro ⟨l, hl, rfl⟩
    have hl := List.mem_range.mp hl
    have h1 : l < k := Nat.lt_of_lt_of_le hl (Nat.min_le_left _ _)
    have h2 : l < L + 1 := Nat.lt_of_lt_of_le hl (Nat.min_le_right _ _)
    rw [Nat.mul_comm, Nat.mul_add_div (by omega), Nat.mul_add_mod, Nat.div_eq_of_lt h1, Nat.mod_eq_of_lt h1]
    omega
  · intro h
    have m := Nat.mod_lt x (show 0 < k by omega)
    have d := Nat.div_add_mod x k
    generalize x % k = r at *
    generalize x / k = q at *
    refine ⟨r, List.mem_range.mpr (by rw [Nat.lt_min]; omega), ?_⟩
    rw [show L - r = q by omega, Nat.mul_comm]
    exact d
theorem nodup_map {α β : Type} {f : α → β} : ∀ {l : List α}, (∀ a ∈ l, ∀ b ∈ l, f a = f b → a = b) → l.Nodup → (l.map f).Nodup
  | [], _, _ => List.nodup_nil
  | a :: l, h, hn => by
    obtain ⟨h1, h2⟩ := List.nodup_cons.mp hn
    rw [List.map_cons]
    refine List.nodup_cons.mpr ⟨fun z => ?_, nodup_map (fun a ha b hb => h a (List.mem_cons_of_mem _ ha) b (List.mem_cons_of_mem _ hb)) h2⟩
    obtain ⟨b, hb, e⟩ := List.mem_map.mp z
    have := h b (List.mem_cons_of_mem _ hb) a List.mem_cons_self e
    exact h1 (this ▸ hb)
theorem oneO_nd {L k : Nat} (hk : 2 ≤ k) : (oneO L k).Nodup := by
  unfold oneO
  refine nodup_map (fun a ha b hb e => ?_) List.nodup_range
  have ha := Nat.lt_of_lt_of_le (List.mem_range.mp ha) (Nat.min_le_left _ _)
  have hb := Nat.lt_of_lt_of_le (List.mem_range.mp hb) (Nat.min_le_left _ _)
  have : ((L - a) * k + a) % k = ((L - b) * k + b) % k := congrArg (· % k) e
  rw [Nat.mul_comm, Nat.mul_add_mod, Nat.mul_comm (L - b), Nat.mul_add_mod, Nat.mod_eq_of_lt ha, Nat.mod_eq_of_lt hb] at this
  exact this
theorem orgs_mem {L : Nat} : ∀ {ks : List Int} {x : Nat}, (∀ k ∈ ks, 2 ≤ k) → (x ∈ orgs L ks ↔ sN x ks = L)
  | [], x, _ => List.mem_singleton
  | k :: ks, x, h => by
    have hk := h k List.mem_cons_self
    show x ∈ (orgs L ks).flatMap _ ↔ sN (onceN x k.toNat) ks = L
    rw [List.mem_flatMap, ← orgs_mem fun q hq => h q (List.mem_cons_of_mem _ hq)]
    constructor
    · rintro ⟨a, ha, hx⟩
      rw [(oneO_mem (by omega)).mp hx]
      exact ha
    · intro ha
      exact ⟨_, ha, (oneO_mem (by omega)).mpr rfl⟩
theorem flat_nd {k : Nat} (hk : 2 ≤ k) : ∀ {fs : List Nat}, fs.Nodup → (fs.flatMap fun a => oneO a k).Nodup
  | [], _ => List.nodup_nil
  | a :: fs, h => by
    obtain ⟨h1, h2⟩ := List.nodup_cons.mp h
    rw [List.flatMap_cons]
    refine List.nodup_append.mpr ⟨oneO_nd hk, flat_nd hk h2, fun x hx y hy e => ?_⟩
    obtain ⟨b, hb, hyb⟩ := List.mem_flatMap.mp hy
    have e1 := (oneO_mem hk).mp hx
    have e2 := (oneO_mem hk).mp hyb
    rw [e, e2] at e1
    exact h1 (e1 ▸ hb)
theorem orgs_nd {L : Nat} : ∀ {ks : List Int}, (∀ k ∈ ks, 2 ≤ k) → (orgs L ks).Nodup
  | [], _ => List.nodup_cons.mpr ⟨List.not_mem_nil, List.nodup_nil⟩
  | k :: ks, h => flat_nd (by have := h k List.mem_cons_self; omega) (orgs_nd fun q hq => h q (List.mem_cons_of_mem _ hq))
theorem cntN_filter (f : Nat → Bool) : ∀ n : Nat, cntN f n = ((List.range n).filter f).length
  | 0 => rfl
  | n + 1 => by
    rw [cntN_succ, cntN_filter f n, List.range_succ, List.filter_append, List.length_append]
    by_cases c : f n = true
    · rw [if_pos c, List.filter_cons_of_pos c]
      rfl
    · rw [if_neg c, List.filter_cons_of_neg c]
      rfl
theorem orgs_cnt {L : Nat} {ks : List Int} (h : ∀ k ∈ ks, 2 ≤ k) {last : Nat} (hl : (L : Int) * pro ks ≤ (last : Int)) : cntO L ks last = (orgs L ks).length := by
  unfold cntO
  rw [cntN_filter]
  have nd2 : ((List.range (last + 1)).filter fun x => decide (sN x ks = L)).Nodup := List.Nodup.sublist List.filter_sublist List.nodup_range
  refine Nat.le_antisymm (List.Nodup.length_le_of_subset nd2 fun x hx => ?_) (List.Nodup.length_le_of_subset (orgs_nd h) fun x hx => ?_)
  · exact (orgs_mem h).mpr (of_decide_eq_true (List.mem_filter.mp hx).2)
  · have e := (orgs_mem h).mp hx
    refine List.mem_filter.mpr ⟨List.mem_range.mpr ?_, decide_eq_true e⟩
    have g := sN_grow (x := x) h
    rw [e, Int.mul_comm] at g
    omega
theorem flat_len {k : Nat} : ∀ (fs : List Nat), (fs.flatMap fun a => oneO a k).length ≤ fs.length * k
  | [] => Nat.zero_le _
  | a :: fs => by
    rw [List.flatMap_cons, List.length_append, List.length_cons]
    have := flat_len (k := k) fs
    have e : (oneO a k).length ≤ k := by
      unfold oneO
      rw [List.length_map, List.length_range]
      exact Nat.min_le_left _ _
    rw [Nat.add_mul, Nat.one_mul]
    omega
theorem orgs_len {L : Nat} : ∀ {ks : List Int}, (∀ k ∈ ks, 2 ≤ k) → (((orgs L ks).length : Nat) : Int) ≤ pro ks
  | [], _ => Int.le_refl _
  | k :: ks, h => by
    have hk := h k List.mem_cons_self
    have ih := orgs_len (L := L) fun q hq => h q (List.mem_cons_of_mem _ hq)
    have f := flat_len (k := k.toNat) (orgs L ks)
    rw [pro_cons']
    show ((((orgs L ks).flatMap fun a => oneO a k.toNat).length : Nat) : Int) ≤ _
    have : (((orgs L ks).length * k.toNat : Nat) : Int) = ((orgs L ks).length : Int) * k := by
      rw [Int.natCast_mul, Int.toNat_of_nonneg (by omega)]
    have m : ((orgs L ks).length : Int) * k ≤ pro ks * k := Int.mul_le_mul_of_nonneg_right ih (by omega)
    rw [Int.mul_comm k]
    omega
/-! ### all the lengths -/
end Sq
set_option Elab.async false
set_option linter.all false
set_option maxRecDepth 100000
set_option maxHeartbeats 2000000
/-! The origins in ascending order. -/
namespace Sq
open PySem PySem.Spec PyProof.Rows L2
def nats (fs : List Nat) : List Int := fs.map fun n : Nat => (n : Int)
/-- the runs below B that are squeezed to L -/
def ordO (L : Nat) (ks : List Int) (B : Nat) : List Nat := (List.range B).filter fun x => decide (sN x ks = L)
theorem ordO_mem {L : Nat} {ks : List Int} {B x : Nat} : x ∈ ordO L ks B ↔ x < B ∧ sN x ks = L := by
  unfold ordO
  rw [List.mem_filter, List.mem_range, decide_eq_true_iff]
theorem ordO_perm {L : Nat} {ks : List Int} {B : Nat} (h : ∀ k ∈ ks, 2 ≤ k) (hB : (L : Int) * pro ks < (B : Int)) : (orgs L ks).Perm (ordO L ks B) := by
  refine (List.perm_ext_iff_of_nodup (orgs_nd h) (List.Nodup.sublist List.filter_sublist List.nodup_range)).mpr fun x => ?_
  rw [orgs_mem h]
  show _ ↔ x ∈ ordO L ks B
  rw [ordO_mem]
  refine ⟨fun e => ⟨?_, e⟩, fun e => e.2⟩
  have g := sN_grow (x := x) h
  rw [e, Int.mul_comm] at g
  omega
theorem nats_app (a b : List Nat) : nats (a ++ b) = nats a ++ nats b := List.map_append
theorem nats_len (a : List Nat) : (nats a).length = a.length := List.length_map _
theorem nats_le : ∀ {fs : List Nat}, fs.Pairwise (· < ·) → (nats fs).Pairwise (· ≤ ·)
  | [], _ => List.Pairwise.nil
  | n :: fs, h => by
    rw [List.pairwise_cons] at h
    refine List.pairwise_cons.mpr ⟨fun z hz => ?_, nats_le h.2⟩
    obtain ⟨m, hm, rfl⟩ := List.mem_map.mp hz
    have := h.1 m hm
    show (n : Int) ≤ (m : Int)
    omega
theorem ordO_lt (L : Nat) (ks : List Int) (B : Nat) : (ordO L ks B).Pairwise (· < ·) := List.Pairwise.sublist List.filter_sublist List.pairwise_lt_range
theorem ordO_is {L : Nat} {ks : List Int} {B : Nat} {ns : List Int} (h : ∀ k ∈ ks, 2 ≤ k) (hB : (L : Int) * pro ks < (B : Int)) (p : ns.Perm (nats (orgs L ks))) (s : ns.Pairwise (· ≤ ·)) : ns = nats (ordO L ks B) :=
  KE_same (p.trans ((ordO_perm h hB).map _)) s (nats_le (ordO_lt L ks B))
theorem ordO_len {L : Nat} {ks : List Int} {B : Nat} (h : ∀ k ∈ ks, 2 ≤ k) (hB : (L : Int) * pro ks < (B : Int)) : (ordO L ks B).length = (orgs L ks).length := (ordO_perm h hB).length_eq.symm
theorem ordO_cnt {L : Nat} {ks : List Int} {B : Nat} (last : Nat) (h : ∀ k ∈ ks, 2 ≤ k) (hB : (L : Int) * pro ks < (B : Int)) : ((ordO L ks B).filter fun x => decide (x ≤ last)).length = cntO L ks last := by
  unfold cntO
  rw [cntN_filter]
  have e1 : ((ordO L ks B).filter fun x => decide (x ≤ last)).Nodup := List.Nodup.sublist (List.filter_sublist.trans List.filter_sublist) List.nodup_range
  have e2 : ((List.range (last + 1)).filter fun x => decide (sN x ks = L)).Nodup := List.Nodup.sublist List.filter_sublist List.nodup_range
  refine ((List.perm_ext_iff_of_nodup e1 e2).mpr fun x => ?_).length_eq
  rw [List.mem_filter, ordO_mem, List.mem_filter, List.mem_range, decide_eq_true_iff, decide_eq_true_iff]
  refine ⟨fun z => ⟨by omega, z.1.2⟩, fun z => ⟨⟨?_, z.2⟩, by omega⟩⟩
  have g := sN_grow (x := x) h
  rw [z.2, Int.mul_comm] at g
  omega
/-- the greatest run that is squeezed to L -/
theorem ordO_last {L : Nat} {ks : List Int} {B : Nat} (h : ∀ k ∈ ks, 2 ≤ k) (hB : (L : Int) * pro ks < (B : Int)) (T : Nat) (eT : (L : Int) * pro ks = (T : Int)) (sT : sN T ks = L) : (ordO L ks B).getLast? = some T := by
  have hT : T < B := by omega
  have e : ordO L ks B = ordO L ks (T + 1) := by
    refine List.Perm.eq_of_pairwise (le := (· < ·)) (fun x y _ _ h1 h2 => by omega) (ordO_lt L ks B) (ordO_lt L ks (T + 1)) ?_
    exact (ordO_perm h hB).symm.trans (ordO_perm h (by omega))
  rw [e]
  unfold ordO
  rw [List.range_succ, List.filter_append, List.filter_cons_of_pos (by rw [decide_eq_true_iff]; exact sT)]
  simp
end Sq
set_option Elab.async false
set_option linter.all false
set_option maxRecDepth 100000
set_option maxHeartbeats 2000000
/-! Generators that live beside their consumer: what stands, seen from either side. -/
namespace Sq
open PySem PySem.Spec PyProof.Rows L2 GenW
/-! ### the heap up to an address -/
def cutH (h : Heap) (n : Nat) : Heap := { h with objs := (h.objs.toList.take n).toArray }
theorem cutH_at (h : Heap) (n b : Nat) : (cutH h n).objs[b]? = if b < n then h.objs[b]? else none := by
  unfold cutH
  rw [List.getElem?_toArray, List.getElem?_take, Array.getElem?_toList]
theorem cutH_get {h : Heap} {n b : Nat} {o : Obj} : (cutH h n).get? b = some o ↔ b < n ∧ h.get? b = some o := by
  unfold Heap.get?
  rw [cutH_at]
  by_cases c : b < n
  · rw [if_pos c]
    exact ⟨fun q => ⟨c, q⟩, fun q => q.2⟩
  · rw [if_neg c]
    exact ⟨fun q => (nomatch q), fun q => absurd q.1 c⟩
theorem cutH_size {h : Heap} {n : Nat} : (cutH h n).objs.size = min n h.objs.size := by
  unfold cutH
  simp
def cutSh (s : Shared) (n : Nat) : Shared := { s with heap := cutH s.heap n }
theorem cutS_all {s : Shared} {n : Nat} (h : s.heap.objs.size ≤ n) : cutSh s n = s := by
  unfold cutSh cutH
  rw [List.take_of_length_le (by simpa using h)]
theorem frames_cut {h base : Heap} {n : Nat} : ∀ {l : List Env}, h.FunFrames base l → (∀ b ∈ frs l, b < n) → (cutH h n).FunFrames base l
  | [], _, _ => trivial
  | env :: l, q, low => by
    obtain ⟨hk, ⟨L, o, hf, hn, ho, hd⟩, hr⟩ := q
    have eL : frs (env :: l) = L :: frs l := by
      unfold frs
      rw [List.filterMap_cons, hf]
    rw [eL] at low
    exact ⟨hk, ⟨L, o, hf, hn, cutH_get.mpr ⟨low L List.mem_cons_self, ho⟩, hd⟩, frames_cut hr fun b hb => low b (List.mem_cons_of_mem _ hb)⟩
/-! ### what is kept out of sight -/
def HidO (b : Addr) (o : Obj) : HO := .ext fun h => h.get? b = some o
def hidP (prv : List Addr) (h : Heap) (H : Hp) : Hp := fun b => if b ∈ prv then (h.get? b).map (HidO b) else H b
def unh (prv : List Addr) (H : Hp) : Hp := fun b => if b ∈ prv then none else H b
theorem hidP_in {prv : List Addr} {h : Heap} {H : Hp} {b : Addr} {o : Obj} (m : b ∈ prv) (e : h.get? b = some o) : hidP prv h H b = some (HidO b o) := by
  unfold hidP
  rw [if_pos m, e]
  rfl
theorem hidP_out {prv : List Addr} {h : Heap} {H : Hp} {b : Addr} (m : b ∉ prv) : hidP prv h H b = H b := by
  unfold hidP
  rw [if_neg m]
theorem unh_in {prv : List Addr} {H : Hp} {b : Addr} (m : b ∈ prv) : unh prv H b = none := by
  unfold unh
  rw [if_pos m]
theorem unh_out {prv : List Addr} {H : Hp} {b : Addr} (m : b ∉ prv) : unh prv H b = H b := by
  unfold unh
  rw [if_neg m]
theorem hidP_same {prv : List Addr} {h : Heap} {H : Hp} (free : ∀ b ∈ prv, H b = none) : Same H (hidP prv h H) := fun b o e => by
  rw [hidP_out fun m => by rw [free b m] at e; cases e]
  exact e
theorem hid_ok {P : Program} {w : World} {prv : List Addr} {h : Heap} {H : Hp} (ok : HOk P w H h) (free : ∀ b ∈ prv, H b = none) : HOk P w (hidP prv h H) h := fun b u e => by
  have sm := hidP_same (h := h) free
  by_cases m : b ∈ prv
  · cases q : h.get? b with
    | none =>
      unfold hidP at e
      rw [if_pos m, q] at e
      cases e
    | some o =>
      rw [hidP_in m q] at e
      cases e
      exact ⟨q, ⟨o, q⟩, fun h1 h2 a k => k o a⟩
  · rw [hidP_out m] at e
    exact (ok b u e).stay (fun _ _ _ q => q) (fun c q => sm _ _ q) fun c xs q => sm _ _ q
theorem unh_ok {P : Program} {w : World} {prv : List Addr} {h : Heap} {H : Hp} (ok : HOk P w H h) (hid : ∀ b ∈ prv, ∃ φ, H b = some (.ext φ)) : HOk P w (unh prv H) h := fun b u e => by
  by_cases m : b ∈ prv
  · rw [unh_in m] at e
    cases e
  · rw [unh_out m] at e
    refine (ok b u e).stay (fun _ _ _ q => q) (fun c q => ?_) fun c xs q => ?_
    · rw [unh_out fun n => by obtain ⟨φ, z⟩ := hid c n; rw [q] at z; cases z]
      exact q
    · rw [unh_out fun n => by obtain ⟨φ, z⟩ := hid c n; rw [q] at z; cases z]
      exact q
section
variable {X : Cx} {pins : List (Addr × Obj)} {σ : L2.St} {H : Hp} {s : Shared}
theorem inv_unhid {prv : List Addr} (I : Inv X pins σ H s) (hid : ∀ b ∈ prv, ∃ φ, H b = some (.ext φ)) : Inv X pins σ (unh prv H) s := by
  have out : ∀ {b : Addr}, H b = none → unh prv H b = none := fun {b} e => by
    by_cases m : b ∈ prv
    · exact unh_in m
    · rw [unh_out m]
      exact e
  have keep : ∀ {b : Addr} {o : HO}, H b = some o → (∀ φ, o ≠ .ext φ) → unh prv H b = some o := fun {b o} e ne => by
    rw [unh_out fun m => by obtain ⟨φ, z⟩ := hid b m; rw [e] at z; exact ne φ (Option.some.inj z)]
    exact e
  refine ⟨I.ok, I.os, I.bare, ⟨fun b o e n => I.base.keep b o e n, fun b o e n => I.base.slot b o e n, fun b o e n hx => out (I.base.free b o e n hx), I.base.there, fun b xs q => keep (I.base.tups b xs q) (fun φ z => by cases z), fun b o u q => keep (I.base.frzs b o u q) (fun φ z => by cases z), fun b ps q => ?_⟩, I.loc, I.cell, out I.free, fun x c e => out (I.freeC x c e), fun p hp => ?_, unh_ok I.hok hid, I.len⟩
  · obtain ⟨more, e⟩ := I.base.tbls b ps q
    exact ⟨more, keep e (fun φ z => by cases z)⟩
  · obtain ⟨a, b, c, d, e⟩ := I.pin p hp
    exact ⟨a, out b, c, d, e⟩
/-- the generators' table may change -/
theorem inv_gens (I : Inv X pins σ H s) {s' : Shared} (hh : s'.heap = s.heap) (ho : s'.os = s.os) (hg : AllBare s'.gens) : Inv X pins σ H s' :=
  I.call' (ch := []) ho (by rw [hh]; exact Un.refl) (by rw [hh]; exact I.hok) hg fun b z => by simp at z
end
/-! ### an error leaves the generator -/
/-! ### the generator's context -/
def lcx (P : Program) (w : World) (K : PySem.W.Frag) (mg : Str → Option Value) (base : Heap) (N : List Str) (qual : Str) (scope : Scope) (f : Addr) (cd : Value) (A : Around) (outer : List Env) (n0 : Addr) (s0 : Shared) (H0 : Hp) (E : XK) (pn : List (Addr × Obj)) : Cx where
  prog := P
  w := w
  K := K
  mg := mg
  base := base
  A := A.deeper (envOfC qual scope n0 f cd)
  N := N
  s_0 := s0
  H_0 := H0
  env := envOfC qual scope n0 f cd
  outer := outer
  stack := envOfC qual scope n0 f cd :: outer
  ex := []
  calm := true
  fn := fun _ => true
  pn := pn
  xe := fun e s' => wpAny (model P w) (A.deeper (envOfC qual scope n0 f cd)) (leaving (envOfC qual scope n0 f cd) e) (fun _ s'' => L2N.CX P w outer H0 s0 E e s'' ∧ ∀ p ∈ pn, s''.heap.get? p.1 = some p.2) (fun _ _ => False) s'
theorem inv_lcx {P : Program} {w : World} {K : PySem.W.Frag} {mg : Str → Option Value} {base : Heap} {N : List Str} {qual : Str} {scope : Scope} {f : Addr} {cd : Value} {A : Around} {outer : List Env} {s s1 : Shared} {H H1 : Hp} {E : XK} {p : Addr × Obj} {σ : L2.St}
    (I : Inv (gcxOf P w K mg base N qual scope f cd A outer s H E [p]) [] σ H1 s1) : Inv (lcx P w K mg base N qual scope f cd A outer s.heap.objs.size s H E [p]) [] σ H1 s1 := I.toTry _
section
variable {P : Program} {w : World} {K : PySem.W.Frag} {mg : Str → Option Value} {base : Heap} {N : List Str} {qual : Str} {scope : Scope} {f : Addr} {cd : Value} {A : Around} {outer : List Env} {n0 : Addr} {s0 sb s1 s2 : Shared} {Hb H1 H2 : Hp} {E E' : XK} {pn ip : List (Addr × Obj)} {σ : L2.St}
theorem owns_lcx : PassesOwn (model P w) (lcx P w K mg base N qual scope f cd A outer n0 s0 Hb E pn).A (lcx P w K mg base N qual scope f cd A outer n0 s0 Hb E pn).env (lcx P w K mg base N qual scope f cd A outer n0 s0 Hb E pn).xe :=
  passes_of (X := lcx P w K mg base N qual scope f cd A outer n0 s0 Hb E pn) (K := fun e s'' => L2N.CX P w outer Hb s0 E e s'' ∧ ∀ p ∈ pn, s''.heap.get? p.1 = some p.2) (E₁ := fun _ _ => False) rfl
/-- what is the generator's alone: its frame, its cells, its own object, its iterators -/
def cellA (l : List (Str × Addr)) : List Addr := (l.map (·.1)).filterMap fun x => l.lookup x
theorem cellA_mem {l : List (Str × Addr)} {c : Addr} : c ∈ cellA l ↔ ∃ x, l.lookup x = some c := by
  unfold cellA
  rw [List.mem_filterMap]
  constructor
  · rintro ⟨x, _, e⟩
    exact ⟨x, e⟩
  · rintro ⟨x, e⟩
    exact ⟨x, List.mem_map.mpr ⟨(x, c), PySem.mem_of_lookup e, rfl⟩, e⟩
def prvOf (scope : Scope) (n0 : Addr) (pn ip : List (Addr × Obj)) : List Addr := n0 :: (cellA (cellsFrom (n0 + 1) scope.names []) ++ (pn ++ ip).map (·.1))
end
end Sq
set_option Elab.async false
set_option linter.all false
set_option maxRecDepth 100000
set_option maxHeartbeats 2000000
namespace Sq
open PySem PySem.Spec PyProof.Rows L2 GenW
section
variable {Xc : Cx} {N : List Str} {qual : Str} {scope : Scope} {f : Addr} {cd : Value} {A : Around} {n0 : Addr} {sb s1 s2 : Shared} {Hb H1 H2 : Hp} {E E' : XK} {pn ip pinsC : List (Addr × Obj)} {σ c c2 : L2.St}
abbrev gcx (Xc : Cx) (N : List Str) (qual : Str) (scope : Scope) (f : Addr) (cd : Value) (A : Around) (n0 : Addr) (s0 : Shared) (H0 : Hp) (E : XK) (pn : List (Addr × Obj)) : Cx := lcx Xc.prog Xc.w Xc.K Xc.mg Xc.base N qual scope f cd A Xc.stack n0 s0 H0 E pn
/-- what lies at n0 or above is none of the consumer's -/
structure Above (Xc : Cx) (pinsC : List (Addr × Obj)) (n0 : Addr) : Prop where
  young : Xc.s_0.heap.objs.size ≤ n0
  loc : Xc.env.locals < n0
  cell : ∀ x k, Xc.env.cells.lookup x = some k → k < n0
  pin : ∀ p ∈ Xc.pn ++ pinsC, p.1 < n0
  fr : ∀ b ∈ frs Xc.stack, b < n0
  base : Xc.base.objs.size ≤ n0
theorem above_of (I : Inv Xc pinsC c Hb sb) (h : sb.heap.objs.size ≤ n0) : Above Xc pinsC n0 := by
  have lo : ∀ {b : Addr} {o : Obj}, sb.heap.get? b = some o → b < n0 := fun e => Nat.lt_of_lt_of_le (Heap.lt_size e) h
  refine ⟨Nat.le_trans I.sz h, Nat.lt_of_lt_of_le I.lt h, fun x k e => ?_, fun p hp => lo (I.pin p hp).1, fun b hb => ?_, Nat.le_trans (Nat.le_trans I.ok.bsz I.sz) h⟩
  · obtain ⟨v, o, ho, _⟩ := I.cell x k e
    exact lo ho
  · obtain ⟨_, o, ho, _⟩ := I.stack.mem hb
    exact lo ho
theorem prv_there (I : Inv (gcx Xc N qual scope f cd A n0 (cutSh sb n0) Hb E' pn) ip σ H1 s1) : ∀ b ∈ prvOf scope n0 pn ip, H1 b = none ∧ ∃ o, s1.heap.get? b = some o := fun b hb => by
  rcases List.mem_cons.mp hb with e | hb
  · subst e
    obtain ⟨m, ⟨o, es, ep, ho, _⟩, _⟩ := I.loc
    exact ⟨I.free, o, ho⟩
  · rcases List.mem_append.mp hb with hb | hb
    · obtain ⟨y, hy⟩ := cellA_mem.mp hb
      obtain ⟨v, o, ho, _⟩ := I.cell y b hy
      exact ⟨I.freeC y b hy, o, ho⟩
    · obtain ⟨p, hp, rfl⟩ := List.mem_map.mp hb
      obtain ⟨h1, h2, _⟩ := I.pin p hp
      exact ⟨h2, _, h1⟩
/-- the consumer, where the generator hands out -/
theorem live_out {prv : List Addr} (Ic : Inv Xc pinsC c Hb sb) (ab : Above Xc pinsC n0) (Ig : Inv (gcx Xc N qual scope f cd A n0 (cutSh sb n0) Hb E' pn) ip σ H1 s1) (free : ∀ b ∈ prv, H1 b = none ∧ n0 ≤ b) : Inv Xc pinsC c (hidP prv s1.heap H1) s1 := by
  have sm : Same H1 (hidP prv s1.heap H1) := hidP_same fun b hb => (free b hb).1
  have low : ∀ {b : Addr} {o : Obj}, sb.heap.get? b = some o → b ∉ (List.range sb.heap.objs.size).filter (fun b => decide (n0 ≤ b)) → b < n0 := fun {b o} e nm => by
    by_cases lt : b < n0
    · exact lt
    · exact absurd (List.mem_filter.mpr ⟨List.mem_range.mpr (Heap.lt_size e), decide_eq_true (Nat.le_of_not_lt lt)⟩) nm
  have cut : ∀ {b : Addr} {o : Obj}, sb.heap.get? b = some o → b < n0 → (cutSh sb n0).heap.get? b = some o := fun e lt => cutH_get.mpr ⟨lt, e⟩
  refine Ic.call' (ch := (List.range sb.heap.objs.size).filter fun b => decide (n0 ≤ b)) Ig.os ⟨fun b o e n nf hx => ?_, fun b o e n hf hx => ?_, fun b o e n hx => ?_, fun b o e hx => ?_, fun b xs e => ?_, fun b o u e => ?_, fun b ps e => ?_⟩ (hid_ok Ig.hok fun b hb => (free b hb).1) Ig.bare fun b hb => ?_
  · exact Ig.base.keep b o (cut e (low e hx)) n nf (List.not_mem_nil)
  · exact Ig.base.slot b o (cut e (low e hx)) n hf (List.not_mem_nil)
  · rw [hidP_out fun m => absurd (low e hx) (Nat.not_lt_of_le (free b m).2)]
    exact Ig.base.free b o (cut e (low e hx)) n (List.not_mem_nil)
  · exact Ig.base.there b o (cut e (low e hx)) (List.not_mem_nil)
  · exact sm _ _ (Ig.base.tups b xs e)
  · exact sm _ _ (Ig.base.frzs b o u e)
  · obtain ⟨more, q⟩ := Ig.base.tbls b ps e
    exact ⟨more, sm _ _ q⟩
  · have le : n0 ≤ b := of_decide_eq_true (List.mem_filter.mp hb).2
    refine ⟨.inr (Nat.le_trans ab.young le), Nat.ne_of_gt (Nat.lt_of_lt_of_le ab.loc le), fun x k e z => ?_, fun p hp z => ?_⟩
    · exact absurd z (Nat.ne_of_lt (Nat.lt_of_lt_of_le (ab.cell x k e) le))
    · exact absurd z (Nat.ne_of_lt (Nat.lt_of_lt_of_le (ab.pin p hp) le))
/-- the generator, where it is woken again -/
theorem live_in (Ic : Inv Xc pinsC c2 H2 s2) (ab : Above Xc pinsC n0) (le : n0 ≤ sb.heap.objs.size) (Ig : Inv (gcx Xc N qual scope f cd A n0 (cutSh sb n0) Hb E' pn) ip σ H1 s1) (hid : ∀ b ∈ prvOf scope n0 pn ip, H2 b = hidP (prvOf scope n0 pn ip) s1.heap H1 b) :
    (∀ b ∈ prvOf scope n0 pn ip, ∃ φ, H2 b = some (.ext φ)) ∧ Inv (gcx Xc N qual scope f cd A n0 (cutSh s2 n0) (unh (prvOf scope n0 pn ip) H2) E pn) ip σ (unh (prvOf scope n0 pn ip) H2) s2 := by
  have there := prv_there Ig
  have obj : ∀ b ∈ prvOf scope n0 pn ip, ∃ o, s1.heap.get? b = some o ∧ H2 b = some (HidO b o) := fun b hb => by
    obtain ⟨_, o, ho⟩ := there b hb
    exact ⟨o, ho, by rw [hid b hb, hidP_in hb ho]⟩
  have ext : ∀ b ∈ prvOf scope n0 pn ip, ∃ φ, H2 b = some (.ext φ) := fun b hb => by
    obtain ⟨o, _, e⟩ := obj b hb
    exact ⟨_, e⟩
  have keep : ∀ b ∈ prvOf scope n0 pn ip, ∀ o, s1.heap.get? b = some o → s2.heap.get? b = some o := fun b hb o e => by
    obtain ⟨o', e', q⟩ := obj b hb
    rw [e] at e'
    cases e'
    exact (Ic.hok b _ q).1
  have mL : n0 ∈ prvOf scope n0 pn ip := List.mem_cons_self
  have mC : ∀ x k, (cellsFrom (n0 + 1) scope.names []).lookup x = some k → k ∈ prvOf scope n0 pn ip := fun x k e => List.mem_cons_of_mem _ (List.mem_append_left _ (cellA_mem.mpr ⟨x, e⟩))
  have mP : ∀ p ∈ pn ++ ip, p.1 ∈ prvOf scope n0 pn ip := fun p hp => List.mem_cons_of_mem _ (List.mem_append_right _ (List.mem_map.mpr ⟨p, hp, rfl⟩))
  have out : ∀ {b : Addr}, H2 b = none → unh (prvOf scope n0 pn ip) H2 b = none := fun {b} e => by
    by_cases m : b ∈ prvOf scope n0 pn ip
    · exact unh_in m
    · rw [unh_out m]
      exact e
  refine ⟨ext, ⟨⟨Ig.ok.mod, Ig.ok.kind, Ig.ok.glob, Ig.ok.blt, ?_, Ig.ok.inj, Ig.ok.has, fun x k h e => ?_, Ig.ok.hd, Ig.ok.frames, Ig.ok.stk, fun b z => absurd z List.not_mem_nil, fun b o e => ?_, ?_, fun b o e => List.not_mem_nil, fun b z => absurd z List.not_mem_nil, frames_cut Ic.stack ab.fr, fun b hb => out (Ic.stkFree b hb)⟩,
    rfl, Ic.bare, Un.kept fun b u q => (cutH_get.mp q).2, ?_, fun x k e => ?_, unh_in mL, fun x k e => unh_in (mC x k e), fun p hp => ?_, unh_ok Ic.hok ext, Ig.len⟩⟩
  · show (cutH s2.heap n0).objs.size ≤ n0
    rw [cutH_size]
    exact Nat.min_le_left _ _
  · have q := Ig.ok.cab x k h e
    have q : (cutH sb.heap n0).objs.size ≤ k := q
    rw [cutH_size] at q
    rw [Nat.min_eq_left le] at q
    show (cutH s2.heap n0).objs.size ≤ k
    rw [cutH_size]
    exact Nat.le_trans (Nat.min_le_left _ _) q
  · obtain ⟨h1, h2⟩ := Ic.bs b o e
    exact ⟨cutH_get.mpr ⟨Nat.lt_of_lt_of_le (Heap.lt_size e) ab.base, h1⟩, out h2⟩
  · show Xc.base.objs.size ≤ (cutH s2.heap n0).objs.size
    rw [cutH_size]
    exact Nat.le_min.mpr ⟨ab.base, Nat.le_trans Ic.ok.bsz Ic.sz⟩
  · obtain ⟨m, ⟨o, es, ep, ho, r⟩, hl⟩ := Ig.loc
    refine ⟨m, ⟨o, es, ep, keep _ mL _ ho, r⟩, fun i x v h1 h2 h3 => ?_⟩
    obtain ⟨u, rv, lk⟩ := hl i x v h1 h2 h3
    refine ⟨u, rv, ?_⟩
    rcases lk with z | ⟨kd, k, e, o', ho', hd'⟩
    · exact .inl z
    · exact .inr ⟨kd, k, e, o', keep k (mC x k e) _ ho', hd'⟩
  · obtain ⟨v, o, ho, hd⟩ := Ig.cell x k e
    exact ⟨v, o, keep k (mC x k e) _ ho, hd⟩
  · obtain ⟨h1, _, h3, h4, h5⟩ := Ig.pin p hp
    exact ⟨keep _ (mP p hp) _ h1, unh_in (mP p hp), h3, h4, h5⟩
end
end Sq
set_option Elab.async false
set_option linter.all false
set_option maxRecDepth 100000
set_option maxHeartbeats 2000000
namespace Sq
open PySem PySem.Spec PyProof.Rows L2 GenW
/-- a generator and its consumer -/
structure Lv where
  Xc : Cx
  pinsC : List (Addr × Obj)
  N : List Str
  qual : Str
  scope : Scope
  f : Addr
  cd : Value
  A : Around
  n0 : Addr
  a : Addr
  go : Obj
  g : Nat
  E : XK
  sC : Shared
  HC : Hp
  tot : Nat
  M : Addr → Prop
  It : Nat → V → Hp → Prop
  J : Nat → L2.St → Hp → Prop
abbrev Lv.cx (L : Lv) (s0 : Shared) (H0 : Hp) (E : XK) : Cx := gcx L.Xc L.N L.qual L.scope L.f L.cd L.A L.n0 s0 H0 E [(L.a, L.go)]
abbrev Lv.prv (L : Lv) (ip : List (Addr × Obj)) : List Addr := prvOf L.scope L.n0 [(L.a, L.go)] ip
abbrev Lv.md (L : Lv) : Model := model L.Xc.prog L.Xc.w
structure Lv.Ok (L : Lv) : Prop where
  ab : Above L.Xc L.pinsC L.n0
  isG : ∀ h : Heap, h.get? L.a = some L.go → h.IsGen L.a L.g
  na : L.n0 ≤ L.a
/-- the consumer leaves what it doesn't own -/
def Kps (M : Addr → Prop) (x : V) (H1 H2 : Hp) : Prop := ∀ b o, H1 b = some o → ¬ M b → x ≠ .ref b → H2 b = some o
def Lv.Seat (L : Lv) (i : Nat) (Hb : Hp) (s0 : Shared) (E' : XK) : Prop := ∃ c sb, s0 = cutSh sb L.n0 ∧ L.n0 ≤ sb.heap.objs.size ∧ Inv L.Xc L.pinsC c Hb sb ∧ L.J i c Hb ∧ ((i = 0 ∧ s0 = L.sC ∧ Hb = L.HC ∧ E' = L.E) ∨ E' = E0)
def Lv.Y (L : Lv) : Protocol := fun n s₀ v s kap => ∃ (i : Nat) (c : L2.St) (Hb H1 : Hp) (x : V) (ip : List (Addr × Obj)), n + 1 + i = L.tot ∧ L.J i c Hb ∧ Same Hb H1 ∧ L.It i x H1 ∧ RelV x v ∧ Inv L.Xc L.pinsC c (hidP (L.prv ip) s.heap H1) s ∧ (∀ b ∈ L.prv ip, H1 b = none ∧ ∃ o, s.heap.get? b = some o) ∧ s.heap.IsGen L.a L.g ∧
  ∀ s2 c2 H2, Inv L.Xc L.pinsC c2 H2 s2 → (∀ b ∈ L.prv ip, H2 b = hidP (L.prv ip) s.heap H1 b) → Kps L.M x H1 (unh (L.prv ip) H2) → L.J (i + 1) c2 (unh (L.prv ip) H2) → kap (.send .none) s2
def Lv.R (L : Lv) : GenEnd := fun n s₀ r s => ((r = .ok (.ret .none) ∨ r = .ok .next) ∧ ∃ c Hb H1, L.J L.tot c Hb ∧ Same Hb H1 ∧ Inv L.Xc L.pinsC c H1 s) ∨ ∃ e, r = .error e ∧ L2N.CX L.Xc.prog L.Xc.w L.Xc.stack L.HC L.sC L.E e s ∧ s.heap.IsGen L.a L.g
structure GEndL where
  nx : Nat → Hp → L2.St → Hp → Prop
  rt : Nat → Hp → VK
  bk : Nat → Hp → L2.St → Hp → Prop := fun _ _ _ _ => False
  ct : Nat → Hp → L2.St → Hp → Prop := fun _ _ _ _ => False
def GEndL.at (D : GEndL) (i : Nat) (Hb : Hp) : Ends := { nx := D.nx i Hb, rt := D.rt i Hb, bk := D.bk i Hb, ct := D.ct i Hb }
abbrev TGL := GEndL → Nat → Hp → L2.St → Hp → Prop
structure Lv.GC (L : Lv) (ip : List (Addr × Obj)) (c : Code) (fs : List Frame) (gd : Bool → Bool) : Prop where
  over : L.A.over c fs = L.A.deeper (envOfC L.qual L.scope L.n0 L.f L.cd)
  split : splitAtGen fs = none
  guard : fs.any Frame.guarded = false
  gd : gd false = false
  low : ∀ p ∈ ip, L.n0 ≤ p.1
structure Lv.GK (L : Lv) (ip : List (Addr × Obj)) (c : Code) (fs : List Frame) (Kf : Flow → Sem PySem.Fin) (Je : Value → Sem PySem.Fin) (D : GEndL) : Prop where
  ok : ∀ (n i : Nat) (s₀ s s0 : Shared) (E' : XK) (Hb : Hp) (fl : Flow), n + i = L.tot → L.Seat i Hb s0 E' → SP (L.cx s0 Hb E') ip (D.at i Hb) fl s → Seg L.md L.A L.R L.Y n s₀ c (Kf fl) fs s
  exc : ∀ (n i : Nat) (s₀ : Shared) (e : Value) (s s0 : Shared) (E' : XK) (Hb : Hp), L.Seat i Hb s0 E' → (L.cx s0 Hb E').xe e s → Seg L.md L.A L.R L.Y n s₀ c (Je e) fs s
structure GL (L : Lv) (st : Stmt) (t : TGL) : Prop where
  run : ∀ (ip : List (Addr × Obj)) (n i : Nat) (s₀ : Shared) (c : Code) (fs : List Frame) (Kf : Flow → Sem PySem.Fin) (Je : Value → Sem PySem.Fin) (gd : Bool → Bool) (lv : List Value → List Value) (s s0 : Shared) (E' : XK) (σ : L2.St) (Hb H : Hp) (D : GEndL),
    L.GC ip c fs gd → n + i = L.tot → L.GK ip c fs Kf Je D → L.Seat i Hb s0 E' → Inv (L.cx s0 Hb E') ip σ H s → t D i Hb σ H → Seg L.md L.A L.R L.Y n s₀ c ((exec st (envOfC L.qual L.scope L.n0 L.f L.cd)).wrap Kf Je gd lv) fs s
structure GLs (L : Lv) (st : List Stmt) (t : TGL) : Prop where
  run : ∀ (ip : List (Addr × Obj)) (n i : Nat) (s₀ : Shared) (c : Code) (fs : List Frame) (Kf : Flow → Sem PySem.Fin) (Je : Value → Sem PySem.Fin) (gd : Bool → Bool) (lv : List Value → List Value) (s s0 : Shared) (E' : XK) (σ : L2.St) (Hb H : Hp) (D : GEndL),
    L.GC ip c fs gd → n + i = L.tot → L.GK ip c fs Kf Je D → L.Seat i Hb s0 E' → Inv (L.cx s0 Hb E') ip σ H s → t D i Hb σ H → Seg L.md L.A L.R L.Y n s₀ c ((execs st (envOfC L.qual L.scope L.n0 L.f L.cd)).wrap Kf Je gd lv) fs s
section
variable {L : Lv} {st : Stmt} {rest : List Stmt}
def tLPlain (t : TS) : TGL := fun D i Hb σ H => t (D.at i Hb) σ H
theorem gl_ps {t : TS} (h : ∀ s0 Hb E', PS (L.cx s0 Hb E') st t) : GL L st (tLPlain t) := by
  refine ⟨fun ip n i s₀ c fs Kf Je gd lv s s0 E' σ Hb H D gc hn k seat I ht => ?_⟩
  refine seg_wrap ?_
  rw [gc.over]
  exact wpAny_mono ((h s0 Hb E').run ip s σ H (D.at i Hb) I ht) (fun fl s' hs => k.ok n i s₀ s' s0 E' Hb fl hn seat hs) fun x s' hx => k.exc n i s₀ x s' s0 E' Hb seat hx
def tL0 : TGL := fun D i Hb σ H => D.nx i Hb σ H
theorem gls_nil : GLs L [] tL0 :=
  ⟨fun ip n i s₀ c fs Kf Je gd lv s s0 E' σ Hb H D gc hn k seat I ht => seg_execs_nil (k.ok n i s₀ s s0 E' Hb .next hn seat ⟨σ, H, I, ht⟩)⟩
def tLThen (t u : TGL) : TGL := fun D i Hb σ H => t { D with nx := fun i' Hb' σ' H' => u D i' Hb' σ' H' } i Hb σ H
theorem gls_cons {t u : TGL} (a : GL L st t) (b : GLs L rest u) : GLs L (st :: rest) (tLThen t u) := by
  refine ⟨fun ip n i s₀ c fs Kf Je gd lv s s0 E' σ Hb H D gc hn k seat I ht => ?_⟩
  refine seg_execs_cons ?_
  refine a.run ip n i s₀ c fs _ Je gd lv s s0 E' σ Hb H { D with nx := fun i' Hb' σ' H' => u D i' Hb' σ' H' } gc hn ⟨fun n' i' s₀' s' s0' E2 Hb' fl hn' seat' hs => ?_, k.exc⟩ seat I ht
  match fl, hs with
  | .next, ⟨σ', H', I', q⟩ => exact b.run ip n' i' s₀' c fs Kf Je gd lv s' s0' E2 σ' Hb' H' D gc hn' k seat' I' q
  | .brk, hs => exact k.ok n' i' s₀' s' s0' E2 Hb' .brk hn' seat' hs
  | .cont, hs => exact k.ok n' i' s₀' s' s0' E2 Hb' .cont hn' seat' hs
  | .ret u, hs => exact k.ok n' i' s₀' s' s0' E2 Hb' (.ret u) hn' seat' hs
/-! ### yield -/
theorem prv_above {L : Lv} (ok : L.Ok) {s0 : Shared} {Hb H : Hp} {E' : XK} {ip : List (Addr × Obj)} {σ : L2.St} {sb s : Shared} (le : L.n0 ≤ sb.heap.objs.size) (I : Inv (L.cx (cutSh sb L.n0) Hb E') ip σ H s) (hip : ∀ p ∈ ip, L.n0 ≤ p.1) : ∀ b ∈ L.prv ip, H b = none ∧ L.n0 ≤ b := fun b hb => by
  refine ⟨(prv_there I b hb).1, ?_⟩
  rcases List.mem_cons.mp hb with e | hb
  · rw [e]
    exact Nat.le_refl _
  · rcases List.mem_append.mp hb with hb | hb
    · obtain ⟨x, hx⟩ := cellA_mem.mp hb
      have q : (cutH sb.heap L.n0).objs.size ≤ b := I.ok.cab x b rfl hx
      rw [cutH_size, Nat.min_eq_left le] at q
      exact q
    · obtain ⟨p, hp, rfl⟩ := List.mem_map.mp hb
      rcases List.mem_append.mp hp with hp | hp
      · rw [List.mem_singleton.mp hp]
        exact ok.na
      · exact hip p hp
/-- at a yield: what the consumer sees, and how it comes back -/
theorem live_turn {L : Lv} (ok : L.Ok) {n i : Nat} {s₀ s s0 : Shared} {E' : XK} {Hb H : Hp} {σ : L2.St} {ip : List (Addr × Obj)} {x : V} {v : Value} {kap : Resume → Shared → Prop} (hip : ∀ p ∈ ip, L.n0 ≤ p.1) (hn : n + 1 + i = L.tot) (seat : L.Seat i Hb s0 E') (I : Inv (L.cx s0 Hb E') ip σ H s) (rv : RelV x v)
    (sm : Same Hb H) (it : L.It i x H) (back : ∀ (s2 : Shared) (H2 : Hp), L.Seat (i + 1) H2 (cutSh s2 L.n0) E0 → Inv (L.cx (cutSh s2 L.n0) H2 E0) ip σ H2 s2 → Kps L.M x H H2 → kap (.send .none) s2) : L.Y n s₀ v s kap := by
  obtain ⟨c, sb, rfl, le, Ic, j, _⟩ := seat
  have ab := prv_above ok (s0 := cutSh sb L.n0) le I hip
  refine ⟨i, c, Hb, H, x, ip, hn, j, sm, it, rv, live_out Ic ok.ab I ab, fun b hb => prv_there I b hb, ok.isG _ (I.pin (L.a, L.go) (List.mem_append_left _ (List.mem_singleton.mpr rfl))).1, fun s2 c2 H2 Ic2 hid kp j2 => ?_⟩
  obtain ⟨ext, I2⟩ := live_in (E := E0) Ic2 ok.ab le I hid
  have Iu := inv_unhid Ic2 ext
  have sz : L.n0 ≤ s2.heap.objs.size := Nat.le_of_lt I2.lt
  exact back s2 _ ⟨c2, s2, rfl, sz, Iu, j2, .inr rfl⟩ I2 kp
/-! ### for -/
end
end Sq
set_option Elab.async false
set_option linter.all false
set_option maxRecDepth 100000
set_option maxHeartbeats 2000000
namespace Sq
open PySem PySem.Spec PyProof.Rows L2 GenW
section
variable {L : Lv}
/-! ### yield from a list -/
def tLYf (L : Lv) (te : TE) : TGL := fun D i Hb σ H => te σ H fun x H1 => ∃ (a : Addr) (xs : List V), x = .ref a ∧ Same Hb H1 ∧ i + xs.length ≤ L.tot ∧ ∃ Pv : Nat → Hp → Prop, Pv 0 H1 ∧ (∀ j H, j ≤ xs.length → Pv j H → H a = some (.lst xs)) ∧
  (∀ j H x, xs[j]? = some x → Pv j H → L.It (i + j) x H ∧ ∀ H2, Kps L.M x H H2 → Pv (j + 1) H2) ∧ ∀ Hb' H, Pv xs.length H → Same Hb' H → D.nx (i + xs.length) Hb' σ H
theorem segYf (ok : L.Ok) {ip : List (Addr × Obj)} {fs : List Frame} {it a : Addr} {xs : List V} {σ : L2.St} {i0 : Nat} {Pv : Nat → Hp → Prop} (low : ∀ p ∈ ip, L.n0 ≤ p.1) (young : L.n0 ≤ it) (nL : it ≠ L.n0) (nC : ∀ x c, (cellsFrom (L.n0 + 1) L.scope.names []).lookup x = some c → c ≠ it) (nP : ∀ p ∈ [(L.a, L.go)] ++ ip, p.1 ≠ it) (nF : it ∉ frs L.Xc.stack) (nA : a ≠ it)
    (calm : (L.A.over (.builtin "proto.yield_from" ⟨[.ref it, .bool false, .none], []⟩) fs).handled = none) (sp : splitAtGen fs = none) (gd : fs.any Frame.guarded = false) (room : i0 + xs.length ≤ L.tot)
    (lst : ∀ j H, j ≤ xs.length → Pv j H → H a = some (.lst xs)) (step : ∀ j H x, xs[j]? = some x → Pv j H → L.It (i0 + j) x H ∧ ∀ H2, Kps L.M x H H2 → Pv (j + 1) H2)
    (fin : ∀ (n : Nat) (s₀ s s0 : Shared) (E' : XK) (Hb H : Hp), n + (i0 + xs.length) = L.tot → L.Seat (i0 + xs.length) Hb s0 E' → Same Hb H → Inv (L.cx s0 Hb E') ip σ H s → Pv xs.length H → Seg L.md L.A L.R L.Y n s₀ (.builtin "proto.yield_from" ⟨[.ref it, .bool false, .none], []⟩) (.pure (.done (.ret .none))) fs s) :
    ∀ (r j n : Nat) (s₀ s s0 : Shared) (E' : XK) (Hb H : Hp), j + r = xs.length → n + (i0 + j) = L.tot → L.Seat (i0 + j) Hb s0 E' → Same Hb H → Inv (L.cx s0 Hb E') ip σ H s → H it = none → s.heap.IsListIter it a j → Pv j H →
      Seg L.md L.A L.R L.Y n s₀ (.builtin "proto.yield_from" ⟨[.ref it, .bool false, .none], []⟩) (L.md.den (.builtin "proto.yield_from" ⟨[.ref it, .bool false, .none], []⟩)) fs s := by
  have turned : ∀ {s s0 : Shared} {E' : XK} {Hb H : Hp} {i : Nat} {h' : Heap} {tk : Nat}, L.Seat i Hb s0 E' → H it = none → Inv (L.cx s0 Hb E') ip σ H s → (∀ b o, b ≠ it → s.heap.get? b = some o → h'.get? b = some o) → Inv (L.cx s0 Hb E') ip σ H { s with heap := h', toks := tk } := fun {s s0 E' Hb H i h' tk} seat hn I hk => by
    obtain ⟨c', sb, rfl, le, _⟩ := seat
    refine I.turned (it := it) hk hn nL (.inr ?_) nC nP
    show (cutH sb.heap L.n0).objs.size ≤ it
    rw [cutH_size]
    exact Nat.le_trans (Nat.min_le_left _ _) young
  intro r
  induction r with
  | zero =>
    intro j n s₀ s s0 E' Hb H hj hn seat sm I hit isL pv
    obtain rfl : j = xs.length := by omega
    obtain ⟨_, its, _, rits, hl⟩ := I.hok a _ (lst _ _ (Nat.le_refl _) pv)
    have isl : s.heap.IsList a its.toArray := ⟨_, hl, rfl, _, rfl⟩
    have none' : its.toArray[xs.length]? = none := by
      have e := rits.length
      have e2 : its[xs.length]? = none := List.getElem?_eq_none_iff.mpr (by omega)
      simpa using e2
    rw [show L.md.den _ = _ from den_yf (X := L.Xc)]
    unfold Builtin.«proto.yield_from»
    try dsimp only
    refine seg_bind (wpAny_pure ?_)
    try dsimp only
    refine seg_bind (wpAny_attempt (wpAny_holding ?_))
    rw [if_neg Bool.false_ne_true, if_pos (show (Value.none == Value.none) = true from rfl)]
    refine wpAny_bind (wpAny_rule (wpAny_bind ?_))
    refine special_lst_end calm isL isl none' fun e h' hS hk => ?_
    obtain ⟨ae, oe, vs, rfl, hoe, hce, hde, h5⟩ := hS
    try dsimp only
    refine seg_bind (wpAny_endsTurn hoe hce ?_)
    try dsimp only
    rw [if_pos rfl]
    first
      | refine seg_bind (wpAny_rule ?_)
      | (rw [if_neg Bool.false_ne_true]; refine seg_bind (wpAny_rule ?_))
      | (rw [if_neg Bool.false_ne_true]; refine seg_bind (wpAny_pure ?_); refine seg_bind (wpAny_rule ?_))
    refine seg_bind (wpAny_field hoe hde h5 ?_)
    exact fin n s₀ _ s0 E' Hb H hn seat sm (turned (tk := s.toks) seat hit I fun b o hb eb => hk b o hb eb) pv
  | succ r ih =>
    intro j n s₀ s s0 E' Hb H hj hn seat sm I hit isL pv
    have lt : j < xs.length := by omega
    obtain ⟨x, hx⟩ : ∃ x, xs[j]? = some x := ⟨_, List.getElem?_eq_getElem lt⟩
    obtain ⟨iti, nxt⟩ := step j H x hx pv
    obtain ⟨_, its, _, rits, hl⟩ := I.hok a _ (lst _ _ (Nat.le_of_lt lt) pv)
    have isl : s.heap.IsList a its.toArray := ⟨_, hl, rfl, _, rfl⟩
    obtain ⟨u, hu, ru⟩ := rits.get hx
    have lb : i0 + j < L.tot := by omega
    obtain ⟨n, rfl⟩ : ∃ m, n = m + 1 := ⟨n - 1, by omega⟩
    rw [show L.md.den _ = _ from den_yf (X := L.Xc)]
    unfold Builtin.«proto.yield_from»
    try dsimp only
    refine seg_bind (wpAny_pure ?_)
    try dsimp only
    refine seg_bind (wpAny_attempt (wpAny_holding ?_))
    rw [if_neg Bool.false_ne_true, if_pos (show (Value.none == Value.none) = true from rfl)]
    refine wpAny_bind (wpAny_rule (wpAny_bind ?_))
    refine special_lst_item isL isl (x := u) (by simpa using hu) fun h' isL' hs => ?_
    have I' := turned (tk := s.toks) seat hit I fun b o hb eb => hs.extBut b o hb eb
    obtain ⟨oi, hoi, hci, hdi⟩ := id isL'
    refine wpAny_pure ?_
    try dsimp only
    refine seg_bind (wpAny_typeOf (T := "list_iterator") ⟨oi, hoi, hci⟩ ?_)
    try dsimp only
    first
      | (refine seg_bind (wpAny_of_eq close_lst ?_); refine seg_bind (wpAny_pure ?_))
      | refine seg_bind (wpAny_bind (wpAny_of_eq close_lst (wpAny_pure ?_)))
      | refine seg_bind (wpAny_of_eq close_lst ?_)
    try dsimp only
    refine seg_bind (wpAny_sleptOver hoi hci (by decide) ?_)
    refine seg_yield sp rfl gd ?_
    have Ip : Inv (L.cx s0 Hb E') (ip ++ [(it, oi)]) σ H { s with heap := h', toks := s.toks } := I'.pins_of fun p hp => by
      rcases List.mem_append.mp hp with z | z
      · exact I'.pin p (List.mem_append_right _ z)
      · rw [List.mem_singleton.mp z]
        exact ⟨hoi, hit, nL, nF, fun v q => by rw [hdi] at q; cases q⟩
    refine live_turn ok (fun p hp => ?_) (by omega) seat Ip ru sm iti fun s2 H2 seat2 I2 kp => ?_
    · rcases List.mem_append.mp hp with z | z
      · exact low p z
      · rw [List.mem_singleton.mp z]
        exact young
    have there := I2.pin (it, oi) (List.mem_append_right _ (List.mem_append_right _ (List.mem_singleton.mpr rfl)))
    have I3 : Inv (L.cx (cutSh s2 L.n0) H2 E0) ip σ H2 s2 := I2.pins_of fun p hp => I2.pin p (List.mem_append_right _ (List.mem_append_left _ hp))
    show Seg _ _ _ _ n s2 _ (Builtin.Generator.sleptOver (.ref it) false >>= fun _ => _) fs s2
    refine seg_bind (wpAny_sleptOver there.1 hci (by decide) ?_)
    try dsimp only
    refine seg_bind (wpAny_pure ?_)
    exact seg_again (plainId_quiet plain_yf _) (ih (j + 1) n s2 s2 (cutSh s2 L.n0) E0 H2 H2 (by omega) (by omega) seat2 (Same.refl _) I3 there.2.1 ⟨oi, there.1, hci, hdi⟩ (nxt H2 kp))
theorem gl_yf (ok : L.Ok) {e : Expr} {yp pos : Pos} {te : TE} (he : ∀ s0 Hb E', PE (L.cx s0 Hb E') e te) (calm : (L.A.deeper (envOfC L.qual L.scope L.n0 L.f L.cd)).handled = none) (hi : interactive (envOfC L.qual L.scope L.n0 L.f L.cd) = false := by rfl) : GL L (.Expr (.YieldFrom e yp) pos) (tLYf L te) := by
  refine ⟨fun ip n i s₀ c fs Kf Je gd lv s s0 E' σ Hb H D gc hn k seat I ht => ?_⟩
  rw [exec_Expr (envOfC L.qual L.scope L.n0 L.f L.cd) _ pos hi rfl]
  show Seg _ _ _ _ n s₀ c (.at pos fun _ => ((eval e (envOfC L.qual L.scope L.n0 L.f L.cd) >>= fun v => (standAt yp >>= fun _ => yieldFrom (envOfC L.qual L.scope L.n0 L.f L.cd) v)) >>= fun x => dropValue (.YieldFrom e yp) pos x).wrap Kf Je gd lv) fs s
  refine seg_at (segw_bind2 ?_)
  rw [gc.over]
  refine wpAny_mono ((he s0 Hb E').run ip s σ H _ I ht) (fun v s1 hv => ?_) fun x s' hx => k.exc n i s₀ x s' s0 E' Hb seat hx
  obtain ⟨x, H1, I1, rv, a, xs, ex, sm, room, Pv, p0, lst, step, fin⟩ := hv
  subst ex
  obtain rfl : v = Value.ref a := rv
  obtain ⟨_, its, _, rits, hl⟩ := I1.hok a _ (lst 0 H1 (Nat.zero_le _) p0)
  have isl : s1.heap.IsList a its.toArray := ⟨_, hl, rfl, _, rfl⟩
  refine seg_at ?_
  show Seg _ _ _ _ n s₀ c ((yieldFrom (envOfC L.qual L.scope L.n0 L.f L.cd) (.ref a)).wrap (fun b => (dropValue (.YieldFrom e yp) pos b).wrap Kf Je gd lv) Je gd lv) fs s1
  unfold yieldFrom
  refine seg_bind_wrap (wpAny_typeOf isl.typeIs ?_)
  rw [if_neg (show ¬ ((Value.type "list" == Value.type "coroutine") = true) by decide)]
  refine seg_bind_wrap (wpAny_holding ?_)
  rw [gc.over]
  refine wpAny_pyIter_list isl ?_
  have below : ∀ {b : Addr} {o : Obj}, s1.heap.get? b = some o → b ≠ s1.heap.objs.size := fun e => Nat.ne_of_lt (Heap.lt_size e)
  have kept : ∀ b o, s1.heap.get? b = some o → (s1.heap.push { cls := .type "list_iterator", data := .fields #[.ref a, .int 0 0] }).get? b = some o := fun b o e => Heap.get?_push_of_some _ e
  have I2 : Inv (L.cx s0 Hb E') ip σ H1 { s1 with heap := s1.heap.push { cls := .type "list_iterator", data := .fields #[.ref a, .int 0 0] } } := I1.kept (t' := s1.toks) kept
  have free : H1 s1.heap.objs.size = none := I1.hok.fresh (Nat.le_refl _)
  have yng : L.n0 ≤ s1.heap.objs.size := Nat.le_of_lt I1.lt
  have frn : s1.heap.objs.size ∉ frs L.Xc.stack := I1.nofs (Nat.le_refl _)
  refine seg_call fun p => ?_
  refine segYf ok (xs := xs) (σ := σ) (i0 := i) gc.low yng (Nat.ne_of_gt I1.lt) (fun y k' e z => ?_) (fun q hq => below (I1.pin q hq).1) frn (below hl) ?_ ?_ ?_ room lst step (fun n' s₀' s' s0' E2 Hb' H' hn' seat' sm' I' pv' => ?_) xs.length 0 n s₀ _ s0 E' Hb H1 (Nat.zero_add _) hn seat sm I2 free ⟨_, Heap.get?_push_size _ rfl, rfl, rfl⟩ p0
  · obtain ⟨v', o, ho, _⟩ := I1.cell y k' e
    exact below ho z
  · show (L.A.over c fs).handled = none
    rw [gc.over]
    exact calm
  · show (splitAtGen fs).map _ = none
    rw [gc.split]
    rfl
  · show (gd false || fs.any Frame.guarded) = false
    rw [gc.gd, gc.guard]
    rfl
  · exact seg_leaf (.ok (.ret .none)) (k.ok n' (i + xs.length) s₀' s' s0' E2 Hb' .next hn' seat' ⟨σ, H', I', fin Hb' H' pv' sm'⟩)
/-! ### from the call to the first item -/
structure G0s (L : Lv) (st : List Stmt) (t : GEndL → L2.St → Hp → Prop) : Prop where
  run : ∀ (s₀ : Shared) (c : Code) (fs : List Frame) (Kf : Flow → Sem PySem.Fin) (Je : Value → Sem PySem.Fin) (gd : Bool → Bool) (lv : List Value → List Value) (s : Shared) (σ : L2.St) (H : Hp) (D : GEndL),
    L.GC [] c fs gd → L.GK [] c fs Kf Je D → L.Seat 0 L.HC L.sC L.E → Inv (L.cx L.sC L.HC L.E) [] σ H s → t D σ H → Seg L.md L.A L.R L.Y L.tot s₀ c ((execs st (envOfC L.qual L.scope L.n0 L.f L.cd)).wrap Kf Je gd lv) fs s
theorem g0_of {st : List Stmt} {t : TGL} (h : GLs L st t) : G0s L st fun D σ H => t D 0 L.HC σ H :=
  ⟨fun s₀ c fs Kf Je gd lv s σ H D gc k seat I ht => h.run [] L.tot 0 s₀ c fs Kf Je gd lv s L.sC L.E σ L.HC H D gc rfl k seat I ht⟩
end
end Sq
set_option Elab.async false
set_option linter.all false
set_option maxRecDepth 100000
set_option maxHeartbeats 2000000
namespace Sq
open PySem PySem.Spec PyProof.Rows L2 GenW
/-! ### a generator def, for a consumer that lives beside it -/
abbrev SpL := List V → Hp → (Addr → Prop) → Nat → (Nat → V → Hp → Prop) → XK → Prop
/-- what a call gives: a generator that has not begun -/
def LMade (Xc : Cx) (pinsC : List (Addr × Obj)) (k : Nat) (c : L2.St) (H : Hp) (s : Shared) (M : Addr → Prop) (tot : Nat) (It : Nat → V → Hp → Prop) (E : XK) (u : Value) (s' : Shared) : Prop :=
  ∃ (a : Addr) (g : Nat) (code : Code), u = .ref a ∧ s.heap.objs.size ≤ a ∧ s'.heap.IsGen a g ∧ s'.gens[g]? = some (.fresh code) ∧ s'.os = s.os ∧ AllBare s'.gens ∧ s'.heap.NoLimit ∧ (∀ b o, s.heap.get? b = some o → s'.heap.get? b = some o) ∧
    ∀ (J : Nat → L2.St → Hp → Prop) (A : Around) (s2 : Shared), J 0 c H → Room k A → A.frames = some Xc.stack → (∀ b o, s'.heap.get? b = some o → s2.heap.get? b = some o) → s2.os = s.os → AllBare s2.gens →
      ∃ L : Lv, L.Ok ∧ L.Xc = Xc ∧ L.pinsC = pinsC ∧ L.a = a ∧ L.g = g ∧ L.M = M ∧ L.tot = tot ∧ L.It = It ∧ L.J = J ∧ L.E = E ∧ L.sC = s ∧ L.HC = H ∧ L.A = A ∧ Seg L.md L.A L.R L.Y L.tot s2 code (L.md.den code) [] s2
structure GFnL (P : Program) (w : World) (K : PySem.W.Frag) (mg : Str → Option Value) (base : Heap) (k : Nat) (f : Addr) (fd : FuncData) (ps : List Str) (sp : SpL) : Prop where
  len : ∀ vs H M tot It E, sp vs H M tot It E → vs.length = ps.length
  run : ∀ (Xc : Cx) (pinsC : List (Addr × Obj)) (c : L2.St) (s : Shared) (H : Hp) (args : Args) (us : List Value) (vs : List V) (M : Addr → Prop) (tot : Nat) (It : Nat → V → Hp → Prop) (E : XK), Xc.prog = P → Xc.w = w → Xc.K = K → Xc.mg = mg → Xc.base = base → Inv Xc pinsC c H s → Room k Xc.A → BindsTo s fd args (ps.zip us) → Vals vs us → sp vs H M tot It E →
    codeAny (model P w) Xc.A (.call (.ref f) args) (fun r s' => match r with | .ok (.ret u) => LMade Xc pinsC k c H s M tot It E u s' | _ => False) s
theorem lfn_of {P : Program} {w : World} {K : PySem.W.Frag} {mg : Str → Option Value} {base : Heap} {k : Nat} {f : Addr} {name qual : Str} {params : Arguments} {body : List Stmt} {scope : Scope} {dV kV doc pm cdv ct oc : Value} {an od : Option Addr}
    {osl : Array (Option Value)} {N ps : List Str} {sp : SpL} (found : K.lookup f = some ⟨oc, od, .func (PySem.W.fnOf name qual params body scope dV kV doc pm an cdv ct), osl⟩) (coded : PySem.W.codeIn K cdv qual = true) (S : GScope N ps scope)
    (len : ∀ vs H M tot It E, sp vs H M tot It E → vs.length = ps.length)
    (inner : ∀ (L : Lv) (vs : List V), L.Ok → L.Xc.prog = P → L.Xc.w = w → L.Xc.K = K → L.Xc.mg = mg → L.Xc.base = base → L.N = N → L.qual = qual → L.scope = scope → L.f = f → L.cd = cdv → Room k (L.A.deeper (envOfC qual scope L.n0 f cdv)) → sp vs L.HC L.M L.tot L.It L.E →
      ∃ t, G0s L body t ∧ t { nx := fun i Hb _ H => i = L.tot ∧ Same Hb H, rt := fun _ _ _ _ => False } (start N vs) L.HC) :
    GFnL P w K mg base (k + 1) f (PySem.W.fnOf name qual params body scope dV kV doc pm an cdv ct) ps sp := by
  refine ⟨len, fun Xc pinsC c s H args us vs M tot It E hP hw hK hmg hbase Ic room bound rel wish => ?_⟩
  subst hP hw hK hmg hbase
  have few := len _ _ _ _ _ _ wish
  have e0 := Ic.env0
  have inK : Xc.K.In s.heap := Ic.kIn
  have noLim : s.heap.NoLimit := Ic.nolimit
  have kinds : ∀ y ∈ ps.zip us, scope.names.lookup y.1 = some .local ∨ (scope.names.lookup y.1 = some .cell ∧ ((cellsFrom (s.heap.objs.size + 1) scope.names []).lookup y.1).isSome = true) := fun ⟨n, v⟩ hy =>
    (S.par n (List.of_mem_zip hy).1).elim .inl fun z => .inr ⟨z, PySem.W.cellsFrom_some _ _ _ (.inl z)⟩
  refine codeAny_call_generator room.depth (inK _ _ found) rfl S.co S.gen rfl (PySem.W.codeRec_of inK coded) (bound _ _ _ _ ?_)
  refine wpAny_newFunctionEnv_cells S.kind kinds fun env he s1 made => ?_
  subst he
  have lim1 : s1.heap.NoLimit := noLim.keeps made.toInCall.keep
  refine ⟨lim1, ?_⟩
  obtain ⟨h1, tk, es1, keep1⟩ := made.done
  have os1 : s1.os = s.os := by rw [es1]
  have gen1 : s1.gens = s.gens := by rw [es1]
  have lt1 : s.heap.objs.size < s1.heap.objs.size := made.toInCall.ns.lt
  have keepS : ∀ b o, s.heap.get? b = some o → s1.heap.get? b = some o := made.toInCall.keep
  suffices main : ∀ (go : Obj) (nm qn : Value) (tk2 : Nat), go.cls = .type "generator" → go.data = .fields #[.int s1.gens.size 0, nm, qn] → go.slots = #[] → (∀ h : Heap, (h.push go).get? h.objs.size = some go) →
      LMade Xc pinsC (k + 1) c H s M tot It E (.ref s1.heap.objs.size) { s1 with gens := s1.gens.push (.fresh (.func body (envOfC qual scope s.heap.objs.size f cdv))), toks := tk2, heap := s1.heap.push go } from
    main _ _ _ _ rfl rfl rfl fun h => Heap.get?_push_size _ rfl
  intro go nm qn tk2 isG dataG slotsG pushG
  have isGen : ∀ h : Heap, h.get? s1.heap.objs.size = some go → h.IsGen s1.heap.objs.size s1.gens.size := fun h e => ⟨go, nm, qn, e, isG, dataG, slotsG⟩
  refine ⟨s1.heap.objs.size, s1.gens.size, _, rfl, Nat.le_of_lt lt1, isGen _ (pushG _), Array.getElem?_push_size .., os1, AllBare.push (by rw [gen1]; exact Ic.bare) rfl, lim1.keeps fun b o e => Heap.get?_push_of_some _ e, fun b o e => Heap.get?_push_of_some _ (keepS b o e), ?_⟩
  intro J Aw s2 j0 roomW framesW keep2 os2 bare2
  obtain ⟨L, eL⟩ : ∃ L : Lv, L = ⟨Xc, pinsC, N, qual, scope, f, cdv, Aw, s.heap.objs.size, s1.heap.objs.size, go, s1.gens.size, E, s, H, tot, M, It, J⟩ := ⟨_, rfl⟩
  have ok : L.Ok := by
    subst eL
    exact ⟨above_of Ic (Nat.le_refl _), fun h e => isGen h e, Nat.le_of_lt lt1⟩
  refine ⟨L, ok, by rw [eL], by rw [eL], by rw [eL], by rw [eL], by rw [eL], by rw [eL], by rw [eL], by rw [eL], by rw [eL], by rw [eL], by rw [eL], by rw [eL], ?_⟩
  obtain ⟨t, ht, reading⟩ := inner L vs ok (by rw [eL]) (by rw [eL]) (by rw [eL]) (by rw [eL]) (by rw [eL]) (by rw [eL]) (by rw [eL]) (by rw [eL]) (by rw [eL]) (by rw [eL]) (by rw [eL]; exact roomW.deeper _) (by rw [eL]; exact wish)
  subst eL
  have e0w : Env0 Xc.prog Xc.w Xc.K Xc.mg Xc.base Aw Xc.stack s H := ⟨framesW, e0.mod, e0.bs, e0.bsz, e0.funs, e0.frf, e0.hok, e0.bare⟩
  have I1 : Inv (gcxOf Xc.prog Xc.w Xc.K Xc.mg Xc.base N qual scope f cdv Aw Xc.stack s H E []) [] (start N vs) H s1 := inv_startG S roomW.hd e0w few rel made
  have keep12 : ∀ b o, s1.heap.get? b = some o → s2.heap.get? b = some o := fun b o e => keep2 b o (Heap.get?_push_of_some _ e)
  have I2 : Inv (gcxOf Xc.prog Xc.w Xc.K Xc.mg Xc.base N qual scope f cdv Aw Xc.stack s H E []) [] (start N vs) H s2 :=
    I1.call' (ch := []) (os2.trans os1.symm) (Un.kept keep12) (I1.hok.kept keep12) bare2 fun b z => by simp at z
  have thereG : s2.heap.get? s1.heap.objs.size = some go := keep2 s1.heap.objs.size go (pushG _)
  have I3 : Inv (gcxOf Xc.prog Xc.w Xc.K Xc.mg Xc.base N qual scope f cdv Aw Xc.stack s H E [(s1.heap.objs.size, go)]) [] (start N vs) H s2 := Inv.pinnedG I2 fun p hp => by
    have hp' : p = (s1.heap.objs.size, go) := by simpa using hp
    rw [hp']
    exact ⟨thereG, I1.hok.fresh (Nat.le_refl _), Nat.ne_of_gt lt1, I1.nofs (Nat.le_refl _), fun v q => by rw [dataG] at q; cases q⟩
  have seat0 : Lv.Seat ⟨Xc, pinsC, N, qual, scope, f, cdv, Aw, s.heap.objs.size, s1.heap.objs.size, go, s1.gens.size, E, s, H, tot, M, It, J⟩ 0 H s E :=
    ⟨c, s, (cutS_all (Nat.le_refl _)).symm, Nat.le_refl _, Ic, j0, .inl ⟨rfl, rfl, rfl, rfl⟩⟩
  refine seg_func ?_
  refine ht.run s2 _ [] _ _ id id s2 (start N vs) H _ ⟨over_func, rfl, rfl, rfl, fun p z => absurd z List.not_mem_nil⟩ ⟨fun n i s₀ s' s0 E' Hb fl hn seat hs => ?_, fun n i s₀ e s' s0 E' Hb seat hx => ?_⟩ seat0 (inv_lcx I3) reading
  · match fl, hs with
    | .next, ⟨σ', H', I', hi, sm⟩ =>
      refine seg_end (.ok (.ret .none)) (.inl ⟨.inl rfl, ?_⟩)
      obtain ⟨c', sb, rfl, le, Ib, j', _⟩ := seat
      have q := live_out (prv := []) Ib ok.ab I' fun b z => absurd z List.not_mem_nil
      have e : hidP [] s'.heap H' = H' := by
        funext b
        exact hidP_out List.not_mem_nil
      rw [e] at q
      subst hi
      exact ⟨c', Hb, H', j', sm, q⟩
    | .brk, ⟨_, _, _, q⟩ => exact False.elim q
    | .cont, ⟨_, _, _, q⟩ => exact False.elim q
    | .ret u, ⟨_, _, _, _, _, q⟩ => exact False.elim q
  · refine seg_wrap ?_
    rw [over_func]
    refine wpAny_mono (show wpAny (model Xc.prog Xc.w) (Aw.deeper (envOfC qual scope s.heap.objs.size f cdv)) (leaving (envOfC qual scope s.heap.objs.size f cdv) e) (fun _ s'' => L2N.CX Xc.prog Xc.w Xc.stack Hb s0 E' e s'' ∧ ∀ p ∈ [(s1.heap.objs.size, go)], s''.heap.get? p.1 = some p.2) (fun _ _ => False) s' from hx) (fun _ s'' q => ?_) fun _ s'' q => q.elim
    obtain ⟨c', sb, es, le, Ib, j', alt⟩ := seat
    rcases alt with ⟨rfl, rfl, rfl, rfl⟩ | rfl
    · exact seg_end (.error e) (.inr ⟨e, rfl, q.1, isGen _ (q.2 (s1.heap.objs.size, go) (List.mem_singleton.mpr rfl))⟩)
    · obtain ⟨a', B, H', cls, d, _, _, _, _, _, _, _, z⟩ := q.1
      exact z.elim
end Sq
set_option Elab.async false
set_option linter.all false
set_option maxRecDepth 100000
set_option maxHeartbeats 1000000
/-! Lists of lists of ints as data. -/
namespace Sq
open PySem PySem.Spec PyProof.Rows L2
theorem lay_rows : ∀ cs : List (List Int), PyData.canLayAll0 (dRows cs) = true
  | [] => rfl
  | c :: cs => by
    show (PyData.canLayAll0 (c.map PyData.int) && PyData.canLayAll0 (dRows cs)) = true
    rw [lay_rows cs, lays_ints c]
    rfl
theorem deep_rows : ∀ cs : List (List Int), PyData.depthAll (dRows cs) ≤ 2
  | [] => Nat.zero_le _
  | c :: cs => Nat.max_le.mpr ⟨Nat.add_le_add_right (deep_ints c) 1, deep_rows cs⟩
theorem shaped_rows (cs : List (List Int)) : SeqAt.shaped (.list (dRows cs)) = true := shaped_il (lay_rows cs) (Nat.le_trans (Nat.add_le_add_right (deep_rows cs) 1) (by decide))
def rLenK (K : PySem.W.Frag) : List V → Hp → VK → Prop := fun xs H Q => ∃ p ys, xs = [V.ref p] ∧ (SqL K H p ys ∨ SqT K H p ys) ∧ Q (V.int (ys.length : Nat)) H
theorem call_lenK {X : Cx} : CallR X (.builtin "len") (rLenK X.K) := call_len_seq
/-- kept by what turns the source alone -/
theorem RowsAt.keep {H H' : Hp} {l d : Addr} (k : ∀ b o, H b = some o → b ≠ l → b ≠ d → H' b = some o) : ∀ {as : List Addr} {cs : List (List Int)}, RowsAt H as cs → l ∉ as → d ∉ as → RowsAt H' as cs
  | [], [], _, _, _ => trivial
  | a :: _, _ :: _, h, n1, n2 => ⟨k _ _ h.1 (fun z => n1 (by rw [z]; exact List.mem_cons_self ..)) (fun z => n2 (by rw [z]; exact List.mem_cons_self ..)), RowsAt.keep k h.2 (fun z => n1 (List.mem_cons_of_mem _ z)) (fun z => n2 (List.mem_cons_of_mem _ z))⟩
  | [], _ :: _, h, _, _ => h.elim
  | _ :: _, [], h, _, _ => h.elim
end Sq
set_option Elab.async false
set_option linter.all false
set_option maxRecDepth 100000
set_option maxHeartbeats 2000000
/-! Code that leaves the generators' table as it is. -/
namespace Sq
open PySem PySem.Spec PyProof.Rows L2 GenW
section
variable {X : Cx} {pins : List (Addr × Obj)} {σ : L2.St} {H : Hp} {s : Shared}
structure GE (X : Cx) (e : Expr) (t : TE) : Prop where
  run : ∀ (pins : List (Addr × Obj)) (s : Shared) (σ : L2.St) (H : Hp) (Q : VK), Inv X pins σ H s → t σ H Q → wpAny (model X.prog X.w) X.A (eval e X.env) (fun u s' => s'.gens = s.gens ∧ EP X pins σ Q u s') X.xe s
structure GA (X : Cx) (es : List Expr) (t : TA) : Prop where
  run : ∀ (pos : Pos) (pins : List (Addr × Obj)) (s : Shared) (σ : L2.St) (H : Hp) (Q : List V → Hp → Prop), Inv X pins σ H s → t σ H Q → wpAny (model X.prog X.w) X.A (spliced (backTo pos (starEach es X.env))) (fun us s' => s'.gens = s.gens ∧ AP X pins σ Q us s') X.xe s
structure GT (X : Cx) (e : Expr) (t : TT) : Prop where
  run : ∀ (pins : List (Addr × Obj)) (s : Shared) (σ : L2.St) (H : Hp) (Q : Bool → Hp → Prop), Inv X pins σ H s → t σ H Q → wpAny (model X.prog X.w) X.A (isTrue e X.env (eval e X.env)) (fun b s' => s'.gens = s.gens ∧ TP X pins σ Q b s') X.xe s
structure GSt (X : Cx) (st : Stmt) (t : TS) : Prop where
  run : ∀ (pins : List (Addr × Obj)) (s : Shared) (σ : L2.St) (H : Hp) (D : Ends), Inv X pins σ H s → t D σ H → wpAny (model X.prog X.w) X.A (exec st X.env) (fun f s' => s'.gens = s.gens ∧ SP X pins D f s') X.xe s
structure GSts (X : Cx) (st : List Stmt) (t : TS) : Prop where
  run : ∀ (pins : List (Addr × Obj)) (s : Shared) (σ : L2.St) (H : Hp) (D : Ends), Inv X pins σ H s → t D σ H → wpAny (model X.prog X.w) X.A (execs st X.env) (fun f s' => s'.gens = s.gens ∧ SP X pins D f s') X.xe s
structure GG (X : Cx) (tg : Expr) (t : TG) : Prop where
  run : ∀ (pins : List (Addr × Obj)) (s : Shared) (σ : L2.St) (H : Hp) (v : V) (u : Value) (Q : L2.St → Hp → Prop), Inv X pins σ H s → RelV v u → t v σ H Q → wpAny (model X.prog X.w) X.A (assign tg X.env u) (fun _ s' => s'.gens = s.gens ∧ ∃ σ' H', Inv X pins σ' H' s' ∧ Q σ' H') X.xe s
def CallG (X : Cx) (f : Value) (r : List V → Hp → VK → Prop) : Prop := ∀ (pins : List (Addr × Obj)) (s : Shared) (σ : L2.St) (H : Hp) (vs : List V) (us : List Value) (Q : VK), Inv X pins σ H s → Vals vs us → r vs H Q → wpAny (model X.prog X.w) X.A (call f us) (fun u s' => s'.gens = s.gens ∧ EP X pins σ Q u s') X.xe s
/-! ### expressions -/
theorem ge_var {i : Nat} {x : Str} {pos : Pos} (hN : X.N[i]? = some x) (hv : Vis X.env.scope x) (hd : (x == ("__debug__" : Str)) = false := by decide) (hcd : (x == ("__classdict__" : Str)) = false := by decide) : GE X (.Name x pos) (tVar i) :=
  ⟨fun pins s σ H Q I h => by
    obtain ⟨v, e, q⟩ := h
    exact raw_name hN hv I e (fun u r => ⟨rfl, v, H, I, r, q⟩) hd hcd⟩
theorem ge_int {i : Int} {k : Nat} {pos : Pos} : GE X (.Constant (.int i) k pos) (tC (.int i)) :=
  ⟨fun pins s σ H Q I h => wpAny_Constant_int ⟨rfl, .int i, H, I.tok _, ⟨_, rfl⟩, h⟩⟩
theorem ga_nil : GA X [] tNil := ⟨fun pos pins s σ H Q I h => Calls.spliced_nil ⟨rfl, [], H, I, .nil, h⟩⟩
theorem ga_cons {e : Expr} {es : List Expr} {te : TE} {t : TA} (ha : GE X e te) (hr : GA X es t) (hs : starEach (e :: es) X.env = (false, eval e X.env) :: starEach es X.env := by rfl) : GA X (e :: es) (tCons te t) := by
  refine ⟨fun pos pins s σ H Q I h => ?_⟩
  rw [hs]
  show wpAny _ _ (spliced ((false, eval e X.env) :: backTo pos (starEach es X.env))) _ _ s
  refine Calls.spliced_cons (thn (ha.run pins s σ H _ I h) fun u s1 hh => ?_)
  obtain ⟨g1, x, H1, I1, r1, q1⟩ := hh
  exact thn (hr.run pos pins s1 σ H1 _ I1 q1) fun us s2 ⟨g2, xs, H2, I2, r2, q2⟩ => ⟨g2.trans g1, x :: xs, H2, I2, .cons r1 r2, q2⟩
theorem ge_lst {es : List Expr} {ta : TA} {pos : Pos} (h : GA X es ta) : GE X (.List es pos) (tLst ta) := by
  refine ⟨fun pins s σ H Q I hq => ?_⟩
  refine wpAny_List_spliced (thn (h.run pos pins s σ H _ I hq) fun us s1 hh => ?_)
  obtain ⟨g1, xs, H1, I1, r, z, q⟩ := hh
  refine ⟨by rw [← r.length]; exact z, g1, .ref s1.heap.objs.size, upd H1 s1.heap.objs.size (.lst xs), I1.laid (t' := s1.toks) (fun b u e => Heap.get?_push_of_some _ e) (Nat.le_refl _) ?_, rfl, q _ (I1.hok.fresh (Nat.le_refl _))⟩
  exact ⟨z, us, 0, r, Heap.get?_push_size _ rfl⟩
theorem ge_callB {id : String} {r : List V → Hp → VK → Prop} {x : Str} {p pos : Pos} {e : Expr} {es : List Expr} {t : TA} (hc : CallG X (.builtin id) r) (hg : Gl X x) (hm : X.mg x = none) (hv : bootBuiltins x = some (.builtin id)) (ha : GA X (e :: es) t) (hn : x ≠ "__name__" := by decide) (hdb : (x == ("__debug__" : Str)) = false := by decide)
    (he : starEach (e :: es) X.env = (false, eval e X.env) :: starEach es X.env := by rfl) (hpl : (backTo pos (starEach es X.env)).any (·.1) = false := by rfl) : GE X (.Call (.Name x p) (e :: es) [] pos) (tCB r t) := by
  refine ⟨fun pins s σ H Q I h => ?_⟩
  refine wpAny_Call_Name_kw (ld_blt I hg hm hv ?_ hn hdb)
  refine PyProof.Rows.callWith_builtin1 (thn (ha.run pos pins s σ H _ I h) fun us s1 hh => ?_) he hpl
  obtain ⟨g1, vs, H1, I1, r1, q1⟩ := hh
  exact thn (hc pins s1 σ H1 vs us Q I1 r1 q1) fun u s2 ⟨g2, q2⟩ => ⟨g2.trans g1, q2⟩
theorem cg_len : CallG X (.builtin "len") (rLenK X.K) := by
  intro pins s σ H xs us Q I r h
  obtain ⟨p, ys, rfl, hq, q⟩ := h
  obtain ⟨u, rfl, rx⟩ := vals1 r
  cases rx
  have hn := line63
  rcases hq with hq | hq
  · obtain ⟨its, r', pl, hz⟩ := I.list hq
    have hlen := r'.length
    exact Calls.call_len_list pl.isList (by simp only [List.size_toArray] <;> omega) ⟨rfl, .int ys.length, H, I.tok _, ⟨s.toks + 1, by rw [List.size_toArray, hlen]⟩, q⟩
  · obtain ⟨its, r', pl, hz⟩ := I.tuple hq
    have hlen := r'.length
    exact len_tuple pl (by simp only [List.size_toArray] <;> omega) ⟨rfl, .int ys.length, H, I.tok _, ⟨s.toks + 1, by rw [List.size_toArray, hlen]⟩, q⟩
/-- l.append(e) -/
theorem ge_append {o e : Expr} {to te : TE} {apos cpos : Pos} (ho : GE X o to) (ha : GE X e te) (hbase : attributeBase o "append" X.env (eval o X.env) = eval o X.env := by rfl)
    (hfew : ((backTo cpos (starEach [e] X.env)).all (fun x => !x.1) && (backToKw cpos (keywordEach [] X.env)).all (fun x => x.1.isSome) && decide ([e].length + ([] : List Keyword).length + (if ([] : List Keyword).isEmpty then 0 else 1) < 30)) = true := by rfl)
    (hline : (apos.endLine == cpos.line) = true := by rfl) (hs : starEach [e] X.env = (false, eval e X.env) :: starEach [] X.env := by rfl) : GE X (.Call (.Attribute o "append" apos) [e] [] cpos) (tBM X.K "list" rAppend to (tCons te tNil)) := by
  refine ⟨fun pins s σ H Q I h => ?_⟩
  refine wpAny_Call_method_late hbase hfew hline rfl (thn (ho.run pins s σ H _ I h) fun v s1 hh => ?_)
  obtain ⟨g1, x, H1, I1, r1, ty, q1⟩ := hh
  obtain ⟨h1, h2⟩ := tyV_is I1 r1 ty
  refine ⟨"list", _, PySem.F.plainAttrs_list, PySem.F.slot_list_append, PySem.F.type_list_append, h1, h2, ?_⟩
  have hA := (ga_cons (hs := hs) ha ga_nil).run cpos pins s1 σ H1 _ I1 q1
  rw [hs] at hA ⊢
  refine Calls.callWith_builtin rfl (Calls.evalArgs_plain (thn hA fun us s2 hh => ?_))
  obtain ⟨g2, vs, H2, I2, r2, l, xs, y, ex, ev, hH, hz, q⟩ := hh
  subst ex ev
  cases r1
  obtain ⟨u, rfl, ru⟩ := r2.one
  obtain ⟨z, its, n, r, hl, eo⟩ := I2.lstM hH
  refine call_meets F.slot_list_append ⟨_, eo, rfl⟩ F.entry_list_append (F.args_list_append_2 _ _) (PySem.list_append l its.toArray n u (by rw [List.size_toArray]; omega)) ⟨eo, ?_⟩
  refine ⟨g2.trans g1, .non, _, I2.lset (its' := its ++ [u]) hH eo (by simp) (r.append (.cons ru .nil)) ?_, rfl, q⟩
  rw [List.length_append, List.length_singleton]
  omega
/-- a == b, two ints -/
def tEqI (ta tb : TE) : TT := fun σ H Q => ta σ H fun x H1 => tb σ H1 fun y H2 => ∃ i j, x = .int i ∧ y = .int j ∧ Q (decide (i = j)) H2
theorem gt_eq {a b : Expr} {ta tb : TE} {pos : Pos} (ha : GE X a ta) (hb : GE X b tb) (hm : behindInMarks .Eq b = false) : GT X (.Compare a [.Eq] [b] pos) (tEqI ta tb) := by
  refine ⟨fun pins s σ H Q I h => ?_⟩
  refine wpAny_isTrue_Compare1 (thn (ha.run pins s σ H _ I h) fun v s1 hh => ?_) hm
  obtain ⟨g1, x, H1, I1, r1, q1⟩ := hh
  refine thn (hb.run pins s1 σ H1 _ I1 q1) fun u s2 hh => ?_
  obtain ⟨g2, y, H2, I2, r2, i, j, rfl, rfl, q⟩ := hh
  obtain ⟨t1, rfl⟩ := r1
  obtain ⟨t2, rfl⟩ := r2
  refine PySem.P.eq_int ?_
  have e : (i == j) = decide (i = j) := rfl
  rw [e]
  exact wpAny_truthy_bool ⟨g2.trans g1, H2, I2, q⟩
/-! ### statements -/
theorem gst_expr {e : Expr} {te : TE} {pos : Pos} (he : GE X e te) (hs : swapsWith e none pos.line X.env = pure false := by rfl) : GSt X (.Expr e pos) (tDrop te) := by
  refine ⟨fun pins s σ H D I h => ?_⟩
  refine wpAny_Expr_any (thn (he.run pins s σ H _ I h) fun v s1 hh => ?_) I.quiet hs
  obtain ⟨g1, x, H1, I1, r1, q1⟩ := hh
  exact ⟨g1, σ, H1, I1, q1⟩
theorem gst_break {pos : Pos} : GSt X (.Break pos) tBreak := ⟨fun _ _ σ H _ I h => wpAny_Break ⟨rfl, σ, H, I, h⟩⟩
theorem gsts_nil : GSts X [] tNext := ⟨fun _ _ σ H _ I h => wpAny_execs_nil ⟨rfl, σ, H, I, h⟩⟩
theorem gsts_cons {st : Stmt} {rest : List Stmt} {t u : TS} (h1 : GSt X st t) (h2 : GSts X rest u) : GSts X (st :: rest) (tSeq t u) := by
  refine ⟨fun pins s σ H D I h => ?_⟩
  refine wpAny_execs_cons (thn (h1.run pins s σ H { D with nx := u D } I h) fun f s1 hh => ?_)
  obtain ⟨g1, q⟩ := hh
  match f, q with
  | .next, ⟨σ', H', I', q⟩ => exact thn (h2.run pins s1 σ' H' D I' q) fun f2 s2 ⟨g2, q2⟩ => ⟨g2.trans g1, q2⟩
  | .ret v, q => exact ⟨g1, q⟩
  | .brk, q => exact ⟨g1, q⟩
  | .cont, q => exact ⟨g1, q⟩
theorem gsts_one {st : Stmt} {t : TS} (h1 : GSt X st t) : GSts X [st] t := by
  refine ⟨fun pins s σ H D I h => ?_⟩
  refine wpAny_execs_cons (thn (h1.run pins s σ H D I h) fun f s1 hh => ?_)
  obtain ⟨g1, q⟩ := hh
  match f, q with
  | .next, q => exact wpAny_execs_nil ⟨g1, q⟩
  | .ret v, q => exact ⟨g1, q⟩
  | .brk, q => exact ⟨g1, q⟩
  | .cont, q => exact ⟨g1, q⟩
theorem gst_if {c : Expr} {a b : List Stmt} {tc : TT} {t u : TS} {pos : Pos} (hc : GT X c tc) (ha : GSts X a t) (hb : GSts X b u) : GSt X (.If c a b pos) (tIfS tc t u) := by
  refine ⟨fun pins s σ H D I h => ?_⟩
  refine wpAny_If (thn (hc.run pins s σ H _ I h) fun d s1 hh => ?_)
  obtain ⟨g1, H1, I1, q1⟩ := hh
  cases d with
  | true => exact thn (ha.run pins s1 σ H1 D I1 q1) fun f2 s2 ⟨g2, q2⟩ => ⟨g2.trans g1, q2⟩
  | false => exact thn (hb.run pins s1 σ H1 D I1 q1) fun f2 s2 ⟨g2, q2⟩ => ⟨g2.trans g1, q2⟩
/-- a local name is stored -/
theorem gg_name {i : Nat} {x : Str} {pos : Pos} (hN : X.N.Nodup) (hi : X.N[i]? = some x) (hx : X.env.scope.names.lookup x = some .local) (hk : X.env.kindOf x = some .local := by first | rfl | assumption) : GG X (.Name x pos) (gName i) := by
  refine ⟨fun pins s σ H v u Q I r h => ?_⟩
  refine wpAny_assign_Name ?_
  obtain ⟨m, hn, hl⟩ := id I.loc
  have hcls : (X.env.scope.kind == .class || (X.env.scope.kind == .module && X.env.locals != X.env.globals)) = false := by rw [I.ok.kind]; rfl
  have hiσ : i < σ.length := by rw [I.len]; exact (List.getElem?_eq_some_iff.mp hi).1
  refine wpAny_storeName_local hk hn (fun h' hn' hs => ⟨rfl, σ.set i (some v), H, ?_, h⟩) hcls
  have old : ∀ b o, X.s_0.heap.get? b = some o → b ≠ X.env.locals := fun b o e => Nat.ne_of_lt (Nat.lt_of_lt_of_le (Heap.lt_size e) I.ok.above)
  obtain ⟨oL, _, _, hoL, _⟩ := id hn
  refine ⟨I.ok, I.os, I.bare, ⟨fun b o e n hb hx => ?_, fun b o e n hb hx => ?_, I.base.free, fun b o e hx => ?_, I.base.tups, I.base.frzs, I.base.tbls⟩, ⟨_, hn', fun j y v' e1 e2 e3 => ?_⟩, fun y c e => ?_, I.free, I.freeC, fun p hp => ?_, fun b ob e => ?_, by simpa using I.len⟩
  · exact (hs.2 b (old b o e)).trans (I.base.keep b o e n hb hx)
  · obtain ⟨sl, e1⟩ := I.base.slot b o e n hb hx
    exact ⟨sl, (hs.2 b (old b o e)).trans e1⟩
  · obtain ⟨o', e1⟩ := I.base.there b o e hx
    exact ⟨o', (hs.2 b (old b o e)).trans e1⟩
  · by_cases hj : j = i
    · subst hj
      rw [hi] at e1
      cases e1
      rw [List.getElem?_set_self hiσ] at e2
      cases e2
      exact ⟨u, r, .inl ⟨hk, by simp⟩⟩
    · rw [List.getElem?_set_ne (Ne.symm hj)] at e2
      obtain ⟨u', r', q⟩ := hl j y v' e1 e2 e3
      refine ⟨u', r', ?_⟩
      rcases q with ⟨k, e⟩ | ⟨k, c, e, z⟩
      · have ne : y ≠ x := fun e => hj (nodup_ix hN e1 (e ▸ hi))
        exact .inl ⟨k, by simp [ne, e]⟩
      · exact .inr ⟨k, c, e, z.sameBut hs (I.cne y c e)⟩
  · obtain ⟨w', z⟩ := I.cell y c e
    exact ⟨w', z.sameBut hs (I.cne y c e)⟩
  · obtain ⟨e, n, ne, nf, d⟩ := I.pin p hp
    exact ⟨(hs.2 p.1 ne).trans e, n, ne, nf, d⟩
  · refine (I.hok b ob e).stay (fun c w' hc q => (hs.2 c ?_).trans q) (fun _ q => q) fun _ _ q => q
    rintro rfl
    rcases hc with rfl | hc
    · rw [I.free] at e
      cases e
    · rw [I.free] at hc
      cases hc
end
end Sq
set_option Elab.async false
set_option linter.all false
set_option maxRecDepth 100000
set_option maxHeartbeats 2000000
/-! for x in g(e, ..): body, where g is a generator def that lives beside its consumer. -/
namespace Sq
open PySem PySem.Spec PyProof.Rows L2 GenW
/-- what the body of the loop has to keep -/
def LBack (M : Addr → Prop) (J : Nat → L2.St → Hp → Prop) (i : Nat) (x : V) (P : Addr → Prop) (H2 Hh : Hp) (σ' : L2.St) (H' : Hp) : Prop := (∀ b, P b → H' b = Hh b) ∧ ∀ H'' : Hp, (∀ b, P b → H'' b = none) → (∀ b, ¬ P b → H'' b = H' b) → Kps M x H2 H'' ∧ J (i + 1) σ' H''
def tForL (sp : SpL) (E : L2.St → XK) (t : TA) (g : TG) (tb : TS) : TS := fun D σ H => t σ H fun vs H1 => ∃ (M : Addr → Prop) (tot : Nat) (It : Nat → V → Hp → Prop) (J : Nat → L2.St → Hp → Prop), sp vs H1 M tot It (E σ) ∧ J 0 σ H1 ∧
  (∀ (i : Nat) (c : L2.St) (Hb H2 : Hp) (x : V) (P : Addr → Prop) (Hh : Hp), i < tot → J i c Hb → Same Hb H2 → It i x H2 → (∀ b, P b → H2 b = none ∧ ∃ φ, Hh b = some (.ext φ)) → (∀ b, ¬ P b → Hh b = H2 b) →
    g x c Hh fun σ2 H3 => tb { nx := LBack M J i x P H2 Hh, ct := LBack M J i x P H2 Hh, bk := D.nx, rt := D.rt } σ2 H3) ∧
  ∀ c Hb H2, J tot c Hb → Same Hb H2 → D.nx c H2
theorem weakN {P : Program} {w : World} {outer : List Env} {H : Hp} {s s' : Shared} {E : XK} {u : Value} (c : L2N.CX P w outer H s E u s') : L2.CX P w outer H s E u s' := by
  obtain ⟨a, B, H', cls, d, e, fl, r⟩ := c
  exact ⟨a, B, H', cls, d, e, L2H.flyingZ_imp (fun _ z => z.zc) fl, r⟩
section
variable {X : Cx} {k : Nat} {f : Addr} {fd : FuncData} {ps : List Str} {sp : SpL} {E : L2.St → XK} {x : Str} {p cpos pos : Pos} {tgt e : Expr} {es : List Expr} {t : TA} {g : TG} {tb : TS} {body : List Stmt}
theorem ps_forL (F : GFnL X.prog X.w X.K X.mg X.base k f fd ps sp) (hr : Room (k + 1) X.A) (hg : Gl X x) (hm : X.mg x = some (.ref f)) (hk : PySem.W.keepIn X.K (.ref f) = true) (hb : Binds X.K fd ps []) (ha : PA X (e :: es) t) (htg : GG X tgt g) (hbd : GSts X body tb)
    (hx : ∀ σ, PassesAt (L2N.CX X.prog X.w) X σ (E σ)) (ns : ∀ σ, NoStop X.K (E σ)) (own : PassesOwn (model X.prog X.w) X.A X.env X.xe) (lt : ∀ (a : Addr) (v : Value), letOwnedTupleGo tgt (.ref a) v = pure () := by intro _ _; rfl)
    (hfs : ∀ y, foldedSetIterable (.Call (.Name x p) (e :: es) [] cpos) X.env y = pure y := by intro _; rfl)
    (hdb : (x == ("__debug__" : Str)) = false := by decide) (he : starEach (e :: es) X.env = (false, eval e X.env) :: starEach es X.env := by rfl) (hpl : (backTo cpos (starEach es X.env)).any (·.1) = false := by rfl) :
    PS X (.For tgt (.Call (.Name x p) (e :: es) [] cpos) body [] pos) (tForL sp E t g tb) := by
  refine ⟨fun pins s σ H D I h => ?_⟩
  refine wpAny_For (wpAny_Call_Name_kw (ld_glob I hg hm ?_ hdb)) hfs
  refine PySem.W.callWith_K (h₀ := X.base) I.ok.mod.kin hk (thn (ha.run cpos pins s σ H _ I h) fun us s1 hh => ?_) he hpl
  obtain ⟨vs, H1, I1, r1, M, tot, It, J, q, j0, turn, fin⟩ := hh
  refine ⟨I1.kIn, ?_⟩
  have few : us.length = ps.length := by rw [← r1.length]; exact F.len _ _ _ _ _ _ q
  have bind := hb s1 us I1.kIn (by rw [List.append_nil]; exact few)
  rw [List.append_nil] at bind
  refine wpAny_call (codeAny_mono (F.run X pins σ s1 H1 ⟨us, []⟩ us vs M tot It (E σ) rfl rfl rfl rfl rfl I1 (hr.mono (by omega)) bind r1 q) fun r s2 hq => ?_)
  match r, hq with
  | .ok (.ret u), hq =>
    obtain ⟨a, g, c, rfl, ha1, isG, fresh, os2, bare2, lim2, keep2, wake⟩ := hq
    refine wpAny_pyIter_gen isG ?_
    obtain ⟨L, ok, eX, eP, eA, eG, eM, eT, eI, eJ, eE, eS, eH, eAr, seg⟩ := wake J X.A.in1 (s2.setGen g .running) j0 ⟨hr.hd, by have := hr.dp; show X.A.depth + 3 * k + 5 < _; omega, by have := hr.un; show X.A.units + 1 + 16 * k + 200 < _; omega⟩ I1.ok.frames (fun b o e => e) os2 (allBare_setGen bare2 rfl)
    obtain ⟨LX, Lp, LN, Lq, Ls, Lf, Lc, LA, Ln, La, Lo, Lg, LE, LS, LH, LT, LM, LI, LJ⟩ := L
    dsimp only at eX eP eA eG eM eT eI eJ eE eS eH eAr
    have eX := eX.symm
    have eP := eP.symm
    have eA := eA.symm
    have eG := eG.symm
    have eM := eM.symm
    have eT := eT.symm
    have eI := eI.symm
    have eJ := eJ.symm
    have eE := eE.symm
    have eS := eS.symm
    have eH := eH.symm
    subst eX eP eA eG eM eT eI eJ eE eS eH eAr
    obtain ⟨L, eL⟩ : ∃ L : Lv, L = ⟨X, pins, LN, Lq, Ls, Lf, Lc, X.A.in1, Ln, a, Lo, g, E σ, s1, H1, tot, M, It, J⟩ := ⟨_, rfl⟩
    have goes0 : (GenState.fresh c).Goes (model X.prog X.w) X.A.in1 (fun n s₀ r s₁ => ((r = .ok (.ret .none) ∨ r = .ok .next) ∧ ∃ c Hb H2, J tot c Hb ∧ Same Hb H2 ∧ Inv X pins c H2 s₁) ∨ ∃ e, r = .error e ∧ (L2N.CX X.prog X.w X.stack H1 s1 (E σ) e s₁ ∧ s₁.heap.IsGen a g)) L.Y tot (.send .none) (s2.setGen g .running) := by
      subst eL
      exact ⟨rfl, seg_imp (fun n s₀ r s z => z) (fun n s₀ v s kap kap' hkk z => by
        obtain ⟨i, c, Hb, H1, x, ip, z1, z2, z3, z4, z5, z6, z7, z8, z9⟩ := z
        exact ⟨i, c, Hb, H1, x, ip, z1, z2, z3, z4, z5, z6, z7, z8, fun s2 c2 H2 w1 w2 w3 w4 => hkk _ _ (z9 s2 c2 H2 w1 w2 w3 w4)⟩) tot seg⟩
    refine codeAny_forLoop_any (fun n s' => s'.heap.IsGen a g ∧ s'.heap.NoLimit ∧ ∃ gs, s'.gens[g]? = some gs ∧ gs.Goes (model X.prog X.w) X.A.in1 (fun n s₀ r s₁ => ((r = .ok (.ret .none) ∨ r = .ok .next) ∧ ∃ c Hb H2, J tot c Hb ∧ Same Hb H2 ∧ Inv X pins c H2 s₁) ∨ ∃ e, r = .error e ∧ (L2N.CX X.prog X.w X.stack H1 s1 (E σ) e s₁ ∧ s₁.heap.IsGen a g)) L.Y n (.send .none) (s'.setGen g .running)) (fun n s' hs => ?_) tot ⟨isG, lim2, _, fresh, goes0⟩
    obtain ⟨isG', lim', gs, hgs, goes⟩ := hs
    have hgl : g < s'.gens.size := (Array.getElem?_eq_some_iff.mp hgs).1
    refine wpAny_gsz (n := g + 1) hgl (next_genG (A := X.A) (F := fun _ _ s₁ => ∃ c Hb H2, J tot c Hb ∧ Same Hb H2 ∧ Inv X pins c H2 s₁) hr.hd lim' (by have := hr.dp; omega) isG' hgs goes (fun v s₁ gs' bare' hv => ?_) (fun s₁ hp h' hkp => ?_) fun er s₁ hee => ?_)
    · intro hsz
      have hsz1 : g < s₁.gens.size := by
        have q : (s₁.setGen g gs').gens.size = s₁.gens.size := setGen_size _ _ _
        have hsz' : g + 1 ≤ (s₁.setGen g gs').gens.size := hsz
        omega
      subst eL
      obtain ⟨i, c2, Hb, H2, x2, ip, hi, j, sm, it, rv, I2, prv, isG1, back⟩ := hv
      dsimp only at j it I2 back isG1 hi
      have I3 : Inv X pins c2 (hidP (Lv.prv ⟨X, pins, LN, Lq, Ls, Lf, Lc, X.A.in1, Ln, a, Lo, g, E σ, s1, H1, tot, M, It, J⟩ ip) s₁.heap H2) (s₁.setGen g gs') := inv_gens I2 rfl rfl (allBare_setGen I2.bare bare')
      obtain ⟨prvL, ePrv⟩ : ∃ l, l = Lv.prv ⟨X, pins, LN, Lq, Ls, Lf, Lc, X.A.in1, Ln, a, Lo, g, E σ, s1, H1, tot, M, It, J⟩ ip := ⟨_, rfl⟩
      have ma : a ∈ prvL := by
        rw [ePrv]
        exact List.mem_cons_of_mem _ (List.mem_append_right _ (List.mem_map.mpr ⟨(a, Lo), List.mem_append_left _ (List.mem_singleton.mpr rfl), rfl⟩))
      rw [← ePrv] at I3 prv back
      refine wpAny_of_eq (lt a v) ?_
      have rd := turn i c2 Hb H2 x2 (fun b => b ∈ prvL) (hidP prvL s₁.heap H2) (by omega) j sm it (fun b hb => ⟨(prv b hb).1, by obtain ⟨o, ho⟩ := (prv b hb).2; exact ⟨_, hidP_in hb ho⟩⟩) fun b hb => hidP_out hb
      refine wpAny_passesOwn own (thn (htg.run pins _ c2 _ x2 v _ I3 rv rd) fun _ s4 h4 => ?_)
      obtain ⟨g4, σ4, H4, I4, q4⟩ := h4
      refine wpAny_passesOwn own (thn (hbd.run pins s4 σ4 H4 _ I4 q4) fun fl s5 h5 => ?_)
      obtain ⟨g5, q5⟩ := h5
      have again : ∀ σ5 H5, Inv X pins σ5 H5 s5 → LBack M J i x2 (fun b => b ∈ prvL) H2 (hidP prvL s₁.heap H2) σ5 H5 → ∃ m, m < n ∧ s5.heap.IsGen a g ∧ s5.heap.NoLimit ∧ ∃ gs, s5.gens[g]? = some gs ∧ gs.Goes (model X.prog X.w) X.A.in1 (fun n s₀ r s₁ => ((r = .ok (.ret .none) ∨ r = .ok .next) ∧ ∃ c Hb H2, J tot c Hb ∧ Same Hb H2 ∧ Inv X pins c H2 s₁) ∨ ∃ e, r = .error e ∧ (L2N.CX X.prog X.w X.stack H1 s1 (E σ) e s₁ ∧ s₁.heap.IsGen a g)) (Lv.Y ⟨X, pins, LN, Lq, Ls, Lf, Lc, X.A.in1, Ln, a, Lo, g, E σ, s1, H1, tot, M, It, J⟩) m (.send .none) (s5.setGen g .running) := fun σ5 H5 I5 lb => by
        obtain ⟨lb1, lb2⟩ := lb
        obtain ⟨kp, j5⟩ := lb2 (unh prvL H5) (fun b hb => unh_in hb) fun b hb => unh_out hb
        have hk := back (s5.setGen g .running) σ5 H5 (inv_gens I5 rfl rfl (allBare_setGen I5.bare rfl)) lb1 kp j5
        cases n with
        | zero => exact hk.elim
        | succ m =>
          refine ⟨m, Nat.lt_succ_self m, ?_, I5.nolimit, gs', ?_, hk⟩
          · obtain ⟨o, nm, qn, ho, r⟩ := isG1
            refine ⟨o, nm, qn, ?_, r⟩
            have z := lb1 a ma
            rw [hidP_in ma ho] at z
            exact (I5.hok a _ z).1
          · rw [g5, g4]
            exact setGen_at hsz1
      match fl, q5 with
      | .next, ⟨σ5, H5, I5, lb⟩ => exact again σ5 H5 I5 lb
      | .cont, ⟨σ5, H5, I5, lb⟩ => exact again σ5 H5 I5 lb
      | .brk, ⟨σ5, H5, I5, qd⟩ => exact ⟨σ5, H5, I5, qd⟩
      | .ret v, q5 => exact q5
    · intro _
      obtain ⟨c2, Hb, H2, j, sm, I2⟩ := hp
      refine wpAny_execs_nil ⟨c2, H2, ?_, fin c2 Hb H2 j sm⟩
      exact I2.call' (ch := []) rfl (Un.kept hkp) (I2.hok.kept hkp) (allBare_setGen I2.bare rfl) fun b z => by simp at z
    · obtain ⟨hc, hg1⟩ := hee
      have kin : X.K.In s₁.heap := by
        obtain ⟨b1, B, H2, cls, d, _, fl, _, ub, _⟩ := id hc
        refine I1.ok.mod.kin.keeps fun b o eb => fl.1 b o (ub.keep b o (I1.bs b o eb).1 (I1.bs b o eb).2 fun hm => ?_)
        rcases List.mem_cons.mp (I1.stkSub b hm) with z | z
        · have low := Heap.lt_size eb
          rw [z] at low
          exact absurd (Nat.lt_of_lt_of_le low (Nat.le_trans I1.ok.bsz I1.ok.above)) (Nat.lt_irrefl _)
        · exact I1.ok.nofr eb z
      refine ⟨hg1, notStop_of (ns σ) kin (weakN hc), fun _ => own _ _ (hx σ pins H1 s1 er _ I1 ?_)⟩
      obtain ⟨b1, B, H2, cls, d, z1, fl, z2, ub, z3, z4, z5, z6⟩ := hc
      exact ⟨b1, B, H2, cls, d, z1, fl, z2, ub, z3, z4, allBare_setGen z5 rfl, z6⟩
end
/-- a generator def by its name -/
structure Dl (P : Program) (w : World) (K : PySem.W.Frag) (mg : Str → Option Value) (base : Heap) (k : Nat) (x : Str) (ps : List Str) (sp : SpL) : Prop where
  ex : ∃ f fd, GFnL P w K mg base k f fd ps sp ∧ mg x = some (.ref f) ∧ PySem.W.keepIn K (.ref f) = true ∧ Binds K fd ps []
section
variable {X : Cx} {k : Nat} {ps : List Str} {sp : SpL} {x : Str} {p cpos pos : Pos} {tgt e : Expr} {es : List Expr} {t : TA} {g : TG} {tb : TS} {body : List Stmt} {W : WX}
/-- the same where it lets nothing out -/
theorem ps_forL0 (D : Dl X.prog X.w X.K X.mg X.base k x ps sp) (hr : Room (k + 1) X.A) (hg : Gl X x) (ha : PA X (e :: es) t) (htg : GG X tgt g) (hbd : GSts X body tb) (own : PassesOwn (model X.prog X.w) X.A X.env X.xe)
    (lt : ∀ (a : Addr) (v : Value), letOwnedTupleGo tgt (.ref a) v = pure () := by intro _ _; rfl) (hfs : ∀ y, foldedSetIterable (.Call (.Name x p) (e :: es) [] cpos) X.env y = pure y := by intro _; rfl)
    (hdb : (x == ("__debug__" : Str)) = false := by decide) (he : starEach (e :: es) X.env = (false, eval e X.env) :: starEach es X.env := by rfl) (hpl : (backTo cpos (starEach es X.env)).any (·.1) = false := by rfl) :
    PS X (.For tgt (.Call (.Name x p) (e :: es) [] cpos) body [] pos) (tForL sp (fun _ => E0) t g tb) := by
  obtain ⟨f, fd, F, gm, kp, b⟩ := D.ex
  refine ps_forL (E := fun _ => E0) F hr hg gm kp b ha htg hbd (fun σ pins H s e s' I c => ?_) (fun σ cls d H z => False.elim z) own lt hfs hdb he hpl
  obtain ⟨_, _, _, _, _, _, _, _, _, _, _, _, z⟩ := c
  exact False.elim z
end
end Sq
set_option Elab.async false
set_option linter.all false
set_option maxRecDepth 100000
set_option maxHeartbeats 2000000
namespace Sq
open PySem PySem.Spec PyProof.Rows L2 GenW
theorem pi_reversedK {X : Cx} {K0 : PySem.W.Frag} {tg e : Expr} {ta : TA} {p pos : Pos} (hK : X.K = K0) (hg : Gl X "reversed") (hm : X.mg "reversed" = none) (ha : PA X [e] ta) (hs : starEach [e] X.env = [(false, eval e X.env)] := by rfl) : PI X tg (.Call (.Name "reversed" p) [e] [] pos) (iRev K0 ta) := by
  subst hK
  exact pi_reversed hg hm ha hs
/-- a generator def, its context taken apart -/
theorem lfn_at {P : Program} {w : World} {K : PySem.W.Frag} {mg : Str → Option Value} {base : Heap} {k : Nat} {f : Addr} {name qual : Str} {params : Arguments} {body : List Stmt} {scope : Scope} {dV kV doc pm cdv ct oc : Value} {an od : Option Addr}
    {osl : Array (Option Value)} {N ps : List Str} {sp : SpL} (found : K.lookup f = some ⟨oc, od, .func (PySem.W.fnOf name qual params body scope dV kV doc pm an cdv ct), osl⟩) (coded : PySem.W.codeIn K cdv qual = true) (S : GScope N ps scope)
    (len : ∀ vs H M tot It E, sp vs H M tot It E → vs.length = ps.length)
    (inner : ∀ (Xc : Cx) (pinsC : List (Addr × Obj)) (A : Around) (n0 a : Addr) (go : Obj) (g : Nat) (E : XK) (sC : Shared) (HC : Hp) (tot : Nat) (M : Addr → Prop) (It : Nat → V → Hp → Prop) (J : Nat → L2.St → Hp → Prop) (vs : List V),
      Lv.Ok ⟨{ Xc with prog := P, w := w, K := K, mg := mg, base := base }, pinsC, N, qual, scope, f, cdv, A, n0, a, go, g, E, sC, HC, tot, M, It, J⟩ → Room k (A.deeper (envOfC qual scope n0 f cdv)) → sp vs HC M tot It E →
      ∃ t, G0s ⟨{ Xc with prog := P, w := w, K := K, mg := mg, base := base }, pinsC, N, qual, scope, f, cdv, A, n0, a, go, g, E, sC, HC, tot, M, It, J⟩ body t ∧ t { nx := fun i Hb _ H => i = tot ∧ Same Hb H, rt := fun _ _ _ _ => False } (start N vs) HC) :
    GFnL P w K mg base (k + 1) f (PySem.W.fnOf name qual params body scope dV kV doc pm an cdv ct) ps sp := by
  refine lfn_of found coded S len fun L vs ok h1 h2 h3 h4 h5 h6 h7 h8 h9 h10 room h => ?_
  obtain ⟨LX, Lp, LN, Lq, Ls, Lf, Lc, LA, Ln, La, Lo, Lg, LE, LS, LH, LT, LM, LI, LJ⟩ := L
  dsimp only at h1 h2 h3 h4 h5 h6 h7 h8 h9 h10 room h
  subst h6 h7 h8 h9 h10
  subst h1 h2 h3 h4 h5
  exact inner LX Lp LA Ln La Lo Lg LE LS LH LT LM LI LJ vs ok room h
end Sq
set_option Elab.async false
set_option linter.all false
set_option maxRecDepth 100000
set_option maxHeartbeats 2000000
/-! More code that leaves the generators' table as it is: calls of defs, operators, tuples, enumerate. -/
namespace Sq
open PySem PySem.Spec PyProof.Rows L2 GenW
/-- a def that keeps the table and lets nothing out -/
structure FnQ (P : Program) (w : World) (K : PySem.W.Frag) (mg : Str → Option Value) (base : Heap) (k : Nat) (f : Addr) (fd : FuncData) (ps : List Str) (sp : Sp) : Prop where
  len : ∀ vs H Q E, sp vs H Q E → vs.length = ps.length
  run : ∀ (A : Around) (outer : List Env) (s : Shared) (H : Hp) (args : Args) (us : List Value) (vs : List V) (Q : VK), Room k A → Env0 P w K mg base A outer s H → BindsTo s fd args (ps.zip us) → Vals vs us → sp vs H Q E0 →
    codeAny (model P w) A (.call (.ref f) args) (fun r s' => match r with | .ok (.ret u) => s'.gens = s.gens ∧ CE outer P w H s Q u s' | _ => False) s
structure Dq (P : Program) (w : World) (K : PySem.W.Frag) (mg : Str → Option Value) (base : Heap) (k : Nat) (x : Str) (ps : List Str) (sp : Sp) : Prop where
  ex : ∃ f fd, FnQ P w K mg base k f fd ps sp ∧ mg x = some (.ref f) ∧ PySem.W.keepIn K (.ref f) = true ∧ Binds K fd ps []
theorem fnq_of {P : Program} {w : World} {K : PySem.W.Frag} {mg : Str → Option Value} {base : Heap} {x qual : Str} {st : Stmt} {f : Addr} {fd : FuncData} {N ps : List Str} {k : Nat} {sp : Sp} (F : Fun K x qual st f fd) (S : FnScope N ps (defScope st)) (len : ∀ vs H Q E, sp vs H Q E → vs.length = ps.length)
    (walk : ∀ (cdv : Value) (A : Around) (outer : List Env) (s : Shared) (H : Hp) (vs : List V) (Q : VK), Room k (A.deeper (envOfC qual (defScope st) s.heap.objs.size f cdv)) → sp vs H Q E0 →
      ∃ t, GSts (cxOf CX0 P w K mg base N qual (defScope st) f cdv A outer s H E0).nox (defBody st) t ∧ t { nx := fun _ H' => Q .non H', rt := Q } (L2.start N vs) H) : FnQ P w K mg base (k + 1) f fd ps sp := by
  obtain ⟨oc, od, kV, doc, pm, an, cdv, ct, osl, rfl, lk, hcd⟩ := F.ex
  refine ⟨len, fun A outer s H args us vs Q hr e0 hb r hsp => ?_⟩
  have hl := len _ _ _ _ hsp
  have KX : K.In s.heap := e0.mod.kin.keeps fun b o e => (e0.bs b o e).1
  have lim : s.heap.NoLimit := e0.mod.nolimit.keeps fun b o e => (e0.bs b o e).1
  have hkind : ∀ y ∈ ps.zip us, (defScope st).names.lookup y.1 = some .local ∨ ((defScope st).names.lookup y.1 = some .cell ∧ ((cellsFrom (s.heap.objs.size + 1) (defScope st).names []).lookup y.1).isSome = true) := fun ⟨n, v⟩ hy =>
    (S.par n (List.of_mem_zip hy).1).elim .inl fun z => .inr ⟨z, PySem.W.cellsFrom_some _ _ _ (.inl z)⟩
  refine codeAny_call_function hr.depth (KX _ _ lk) rfl S.co S.gen rfl (PySem.W.codeRec_of KX hcd) (hb _ _ _ _ ?_)
  refine wpAny_newFunctionEnv_cells S.kind hkind fun env he s1 made => ?_
  subst he
  refine ⟨lim.keeps made.toInCall.keep, codeAny_func ?_⟩
  have gen1 : s1.gens = s.gens := by
    obtain ⟨h1, tk, es1, _⟩ := made.done
    rw [es1]
  obtain ⟨t, ht, hq⟩ := walk cdv A outer s H vs Q (hr.deeper _) hsp
  have I : Inv (cxOf CX0 P w K mg base N qual (defScope st) f cdv A outer s H E0).nox [] (start N vs) H s1 := (inv_start S hr.hd e0 hl r made).wish _
  refine wpAny_mono (ht.run [] s1 (start N vs) H _ I hq) (fun fl s' hs => ?_) fun e s' hs => False.elim hs
  obtain ⟨g, hs⟩ := hs
  match fl, hs with
  | .ret u, ⟨v, σ', H', J, rv, q⟩ => exact ⟨g.trans gen1, v, H', J.os, J.bare, J.base, J.hok, rv, q⟩
  | .next, ⟨σ', H', J, q⟩ => exact ⟨g.trans gen1, V.non, H', J.os, J.bare, J.base, J.hok, rfl, q⟩
  | .brk, ⟨_, _, _, q⟩ => exact False.elim q
  | .cont, ⟨_, _, _, q⟩ => exact False.elim q
section
variable {X : Cx} {pins : List (Addr × Obj)} {σ : L2.St} {H : Hp} {s : Shared} {k : Nat} {ps : List Str} {sp : Sp} {x : Str} {p pos : Pos} {e : Expr} {es : List Expr} {t : TA}
theorem ge_callU (D : Dq X.prog X.w X.K X.mg X.base k x ps sp) (hr : Room k X.A) (hg : Gl X x) (ha : GA X (e :: es) t) (hdb : (x == ("__debug__" : Str)) = false := by decide)
    (he : starEach (e :: es) X.env = (false, eval e X.env) :: starEach es X.env := by rfl) (hpl : (backTo pos (starEach es X.env)).any (·.1) = false := by rfl) : GE X (.Call (.Name x p) (e :: es) [] pos) (tCall sp [] E0 t) := by
  obtain ⟨f, fd, F, g, kp, b⟩ := D.ex
  refine ⟨fun pins s σ H Q I h => ?_⟩
  refine wpAny_Call_Name_kw (ld_glob I hg g ?_ hdb)
  refine PySem.W.callWith_K (h₀ := X.base) I.ok.mod.kin kp (thn (ha.run pos pins s σ H _ I h) fun us s1 hh => ?_) he hpl
  obtain ⟨g1, vs, H1, I1, r, q⟩ := hh
  refine ⟨I1.kIn, ?_⟩
  rw [List.append_nil] at q
  have hl : us.length = ps.length := by rw [← r.length]; exact F.len _ _ _ _ q
  have bind := b s1 us I1.kIn (by rw [List.append_nil]; exact hl)
  rw [List.append_nil] at bind
  refine wpAny_call (codeAny_mono (F.run X.A X.stack s1 H1 ⟨us, []⟩ us vs Q hr I1.env0 bind r q) fun r s' hq => ?_)
  match r, hq with
  | .ok (.ret u), hq => exact ⟨hq.1.trans g1, I1.after hq.2⟩
/-- a + b, two ints -/
def tAddI (ta tb : TE) : TE := fun σ H Q => ta σ H fun x H1 => tb σ H1 fun y H2 => ∃ i j, x = .int i ∧ y = .int j ∧ Q (.int (i + j)) H2
theorem ge_add {a b : Expr} {ta tb : TE} (ha : GE X a ta) (hb : GE X b tb) : GE X (.BinOp a .Add b pos) (tAddI ta tb) := by
  refine ⟨fun pins s σ H Q I h => ?_⟩
  refine wpAny_BinOp (thn (ha.run pins s σ H _ I h) fun v s1 hh => ?_)
  obtain ⟨g1, x, H1, I1, r1, q1⟩ := hh
  refine thn (hb.run pins s1 σ H1 _ I1 q1) fun u s2 hh => ?_
  obtain ⟨g2, y, H2, I2, r2, i, j, rfl, rfl, q⟩ := hh
  obtain ⟨t1, rfl⟩ := r1
  obtain ⟨t2, rfl⟩ := r2
  exact add_int ⟨g2.trans g1, .int (i + j), H2, I2.tok _, ⟨_, rfl⟩, q⟩
/-- a < b, two ints -/
def tLtI (ta tb : TE) : TT := fun σ H Q => ta σ H fun x H1 => tb σ H1 fun y H2 => ∃ i j, x = .int i ∧ y = .int j ∧ Q (decide (i < j)) H2
theorem gt_lt {a b : Expr} {ta tb : TE} (ha : GE X a ta) (hb : GE X b tb) (hm : behindInMarks .Lt b = false) : GT X (.Compare a [.Lt] [b] pos) (tLtI ta tb) := by
  refine ⟨fun pins s σ H Q I h => ?_⟩
  refine wpAny_isTrue_Compare1 (thn (ha.run pins s σ H _ I h) fun v s1 hh => ?_) hm
  obtain ⟨g1, x, H1, I1, r1, q1⟩ := hh
  refine thn (hb.run pins s1 σ H1 _ I1 q1) fun u s2 hh => ?_
  obtain ⟨g2, y, H2, I2, r2, i, j, rfl, rfl, q⟩ := hh
  obtain ⟨t1, rfl⟩ := r1
  obtain ⟨t2, rfl⟩ := r2
  exact lt_int (wpAny_truthy_bool ⟨g2.trans g1, H2, I2, q⟩)
/-! ### targets -/
structure GGs (X : Cx) (es : List Expr) (t : TGs) : Prop where
  run : ∀ (pins : List (Addr × Obj)) (s : Shared) (σ : L2.St) (H : Hp) (vs : List V) (us : List Value) (Q : L2.St → Hp → Prop), Inv X pins σ H s → Vals vs us → t vs σ H Q →
    wpAny (model X.prog X.w) X.A (assignInOrder ((assignEach es X.env).map (·.2)) us) (fun _ s' => s'.gens = s.gens ∧ ∃ σ' H', Inv X pins σ' H' s' ∧ Q σ' H') X.xe s
theorem ggs_nil : GGs X [] gNil := ⟨fun pins s σ H vs us Q I r h => by
  obtain ⟨e, q⟩ := h
  subst e
  cases r
  exact assignInOrder_nil ⟨rfl, σ, H, I, q⟩⟩
theorem ggs_cons {e : Expr} {es : List Expr} {t : TG} {u : TGs} (h1 : GG X e t) (h2 : GGs X es u)
    (hs : (assignEach (e :: es) X.env).map (·.2) = assign e X.env :: (assignEach es X.env).map (·.2) := by rfl) : GGs X (e :: es) (gCons t u) := by
  refine ⟨fun pins s σ H vs us Q I r h => ?_⟩
  obtain ⟨v, vr, e1, h⟩ := h
  subst e1
  cases r with
  | cons r rr =>
    rw [hs]
    refine assignInOrder_cons (thn (h1.run pins s σ H _ _ _ I r h) fun _ s1 hh => ?_)
    obtain ⟨g1, σ1, H1, I1, q1⟩ := hh
    exact thn (h2.run pins s1 σ1 H1 _ _ Q I1 rr q1) fun _ s2 ⟨g2, q2⟩ => ⟨g2.trans g1, q2⟩
theorem gg_tup {es : List Expr} {kk : Nat} {t : TGs} {n : Nat} {tpos : Pos} (hc : X.calm = true) (h : GGs X es t) (hn : (assignEach es X.env).length = n := by rfl) (hst : (assignEach es X.env).findIdx? (·.1) = none := by rfl) : GG X (.Tuple es kk tpos) (gTup X.K n t) := by
  refine ⟨fun pins s σ H v u Q I r hw => ?_⟩
  obtain ⟨a, xs, e1, hq, hl, hw⟩ := hw
  subst e1
  cases r
  obtain ⟨its, rv, ht, hz⟩ := I.tuple hq
  refine assign_Tuple_tuple (I.ok.hd hc) ht (by simp [hn, ← hl, rv.length]) hst fun h' hx => ?_
  have I1 : Inv X pins σ H { s with heap := h' } := I.kept (t' := s.toks) fun b o e => hx b o (Nat.ne_of_lt (Heap.lt_size e)) e
  exact h.run pins _ σ H xs _ Q I1 (by simpa using rv) hw
/-! ### statements -/
theorem gst_asg {tg e : Expr} {te : TE} {g : TG} {spos : Pos} (he : GE X e te) (hg : GG X tg g) (hs : swapsWithSole [tg] e spos.line X.env = pure false := by rfl) (hw : swappedStores [tg] e X.env = pure none := by rfl)
    (h1 : (assignEach [tg] X.env).map (·.2) = [assign tg X.env] := by rfl) : GSt X (.Assign [tg] e spos) (tAsg te g) := by
  refine ⟨fun pins s σ H D I h => ?_⟩
  refine wpAny_Assign_stores (thn (he.run pins s σ H _ I h) fun v s1 hh => ?_) hs hw
  obtain ⟨g1, x, H1, I1, r1, q1⟩ := hh
  rw [h1]
  exact thn (hg.run pins s1 σ H1 x v _ I1 r1 q1) fun _ s2 ⟨g2, q2⟩ => ⟨g2.trans g1, q2⟩
theorem gst_ret {e : Expr} {te : TE} {spos : Pos} (he : GE X e te) : GSt X (.Return (some e) spos) (tRet te) := by
  refine ⟨fun pins s σ H D I h => ?_⟩
  refine wpAny_Return_some (thn (he.run pins s σ H _ I h) fun v s1 hh => ?_)
  obtain ⟨g1, x, H1, I1, r1, q1⟩ := hh
  exact ⟨g1, x, σ, H1, I1, r1, q1⟩
/-- what is never reached -/
theorem gst_never {st : Stmt} : GSt X st fun _ _ _ => False := ⟨fun _ _ _ _ _ _ h => False.elim h⟩
/-- for a, b in enumerate(e): body -/
def tForEn (K : PySem.W.Frag) (te : TE) (g : TG) (tb : TS) : TS := fun D σ H => (tCons te tNil) σ H fun vs H1 => ∃ (a : Addr) (xs : List V), vs = [.ref a] ∧ SqL K H1 a xs ∧ ∃ Pv : Nat → L2.St → Hp → Prop, Pv 0 σ H1 ∧ (∀ i σ H, Pv i σ H → SqL K H a xs) ∧
  (∀ (i : Nat) (y : V) (σ : L2.St) (H : Hp) (T : Addr), xs[i]? = some y → Pv i σ H → H T = none → g (.ref T) σ (upd H T (.tup [.int (i : Int), y])) fun σ2 H2 => tb { nx := Pv (i + 1), ct := Pv (i + 1), bk := D.nx, rt := D.rt } σ2 H2) ∧ ∀ σ H, Pv xs.length σ H → D.nx σ H
theorem gst_forEn {K0 : PySem.W.Frag} {elts : List Expr} {kk : Nat} {tpos : Pos} {e : Expr} {te : TE} {g : TG} {tb : TS} {body : List Stmt} {p cpos spos : Pos} (hK : X.K = K0) (hc : X.calm = true) (own : PassesOwn (model X.prog X.w) X.A X.env X.xe) (hg : Gl X "enumerate") (hm : X.mg "enumerate" = none) (he : GE X e te) (hgt : GG X (.Tuple elts kk tpos) g) (hb : GSts X body tb)
    (hs : starEach [e] X.env = (false, eval e X.env) :: starEach [] X.env := by rfl) (hfs : ∀ y, foldedSetIterable (.Call (.Name "enumerate" p) [e] [] cpos) X.env y = pure y := by intro _; rfl) :
    GSt X (.For (.Tuple elts kk tpos) (.Call (.Name "enumerate" p) [e] [] cpos) body [] spos) (tForEn K0 te g tb) := by
  subst hK
  refine ⟨fun pins s σ H D I h => ?_⟩
  have ha : GA X [e] (tCons te tNil) := ga_cons (hs := hs) he ga_nil
  refine wpAny_For (Call_ (ld_blt I hg hm boot_enumerate (PyProof.Rows.callWith_type1 (thn (ha.run _ pins s σ H _ I h) fun us s1 hh => ?_) hs rfl))) hfs
  obtain ⟨g1, vs, H1, I1, r1, a, xs, ex, hq, Pv, p0, hl, turn, fin⟩ := hh
  subst ex
  obtain ⟨v0, rfl, rv0⟩ := r1.one
  cases rv0
  obtain ⟨its, rv, p', hz⟩ := I1.list hq
  refine call_enumerate_list p'.isList fun h' hen hit hsz hk => wpAny_pyIter_enum hen ?_
  have I2 : Inv X pins σ H1 { s1 with heap := h' } := I1.kept (t' := s1.toks) hk
  obtain ⟨en, een⟩ : ∃ en, en = s1.heap.objs.size + 1 := ⟨_, rfl⟩
  obtain ⟨it, eit⟩ : ∃ it, it = s1.heap.objs.size := ⟨_, rfl⟩
  have fresh : ∀ b ∈ [en, it], s1.heap.objs.size ≤ b := fun b hb => by
    have e' : b = en ∨ b = it := by simpa using hb
    rcases e' with z | z <;> omega
  have fpk : ∀ b ∈ [en, it], FpOk X pins H1 b := fun b hb => I1.fpOk (fresh b hb) (I1.hok.fresh (fresh b hb))
  have hne : en ≠ it := by omega
  rw [← een, ← eit] at hen
  rw [← eit] at hit
  rw [← een]
  refine codeAny_forLoop_any (fun n s' => ∃ i σ' H', n = xs.length - i ∧ i ≤ xs.length ∧ s'.gens = s.gens ∧ Inv X pins σ' H' s' ∧ (∃ old, IsEnum s'.heap en it (i : Int) old) ∧ s'.heap.IsListIter it a i ∧ (∀ b ∈ [en, it], H' b = none) ∧ Pv i σ' H') (fun n s' hs' => ?_) xs.length ⟨0, σ, H1, rfl, Nat.zero_le _, g1, I2, ⟨_, hen⟩, hit, fun b hb => (fpk b hb).1, p0⟩
  obtain ⟨i, σ', H', rfl, hi, g2, I', ⟨old, hen'⟩, hit', non, pv⟩ := hs'
  have fpk' : ∀ b ∈ [en, it], FpOk X pins H' b := fun b hb => ⟨non b hb, (fpk b hb).2⟩
  obtain ⟨its', rv', p2, hz'⟩ := I'.list (hl i σ' H' pv)
  have hlen := rv'.length
  by_cases lt : i < xs.length
  · obtain ⟨y, hy⟩ : ∃ y, xs[i]? = some y := ⟨_, List.getElem?_eq_getElem lt⟩
    obtain ⟨u, hu, ru⟩ := rv'.get hy
    have hel : en < s'.heap.objs.size := Heap.lt_size hen'
    have hil : it < s'.heap.objs.size := by
      obtain ⟨_, q, _⟩ := hit'
      exact Heap.lt_size q
    refine wpAny_pyNext_enum_item hen' hit' p2.isList (x := u) (by simpa using hu) hne fun h2 ho hit2 hT hsz2 hk2 => ?_
    refine wpAny_letOwnedTupleGo_enum (s := { s' with heap := h2, toks := s'.toks + 1 }) ho fun h3 hen3 sb => ?_
    have hT2 : h3.get? s'.heap.objs.size = some { cls := .type "tuple", data := .seq #[.int i s'.toks, u] } := (sb.2 _ (Nat.ne_of_gt hel)).trans hT
    have new : ObjOk X.prog X.w (upd H' s'.heap.objs.size (.tup [.int (i : Nat), y])) h3 s'.heap.objs.size (.tup [.int (i : Nat), y]) :=
      ⟨by show 2 ≤ sizeLine; rw [sizeLine_eq]; decide, [.int i s'.toks, u], .cons ⟨_, rfl⟩ (.cons ru .nil), ⟨_, hT2, rfl, _, rfl⟩⟩
    have I3 : Inv X pins σ' (upd H' s'.heap.objs.size (.tup [.int (i : Nat), y])) { s' with heap := h3, toks := s'.toks + 1 } :=
      I'.turnedNew (ch := [en, it]) (fun b ob hb q => (sb.2 b (fun z => hb (by simp [z]))).trans (hk2 b ob (fun z => hb (by simp [z])) (fun z => hb (by simp [z])) q)) fpk' (Nat.le_refl _) new
    have hit3 : h3.IsListIter it a (i + 1) := hit2.at fun o q => (sb.2 it (Ne.symm hne)).trans q
    have non3 : ∀ b ∈ [en, it], (upd H' s'.heap.objs.size (.tup [.int (i : Nat), y])) b = none := fun b hb => by
      have lb : b < s'.heap.objs.size := by
        have e' : b = en ∨ b = it := by simpa using hb
        rcases e' with z | z <;> omega
      rw [upd_ne (Nat.ne_of_lt lb)]
      exact non b hb
    obtain ⟨oi, eoi, ci, di⟩ := id hit3
    have I4 := I3.pinned (fp := [en, it]) (fun b hb => ⟨non3 b hb, (fpk b hb).2⟩) (fun b hb => by
      have e' : b = en ∨ b = it := by simpa using hb
      rcases e' with z | z
      · rw [z]
        exact ⟨_, hen3, fun v q => nomatch q⟩
      · rw [z]
        exact ⟨oi, eoi, fun v q => by rw [di] at q; cases q⟩)
    refine wpAny_passesOwn own (thn (hgt.run _ _ σ' _ (V.ref s'.heap.objs.size) _ _ I4 rfl (turn i y σ' H' _ hy pv (I'.hok.fresh (Nat.le_refl _)))) fun _ s4 h4 => ?_)
    obtain ⟨g4, σ4, H4, I4', q4⟩ := h4
    refine wpAny_passesOwn own (thn (hb.run _ s4 σ4 H4 _ I4' q4) fun fl s5 h5 => ?_)
    obtain ⟨g5, q5⟩ := h5
    have gg : s5.gens = s.gens := g5.trans (g4.trans g2)
    have again : ∀ σ5 H5, Inv X (pins ++ pinsAt [en, it] h3) σ5 H5 s5 → Pv (i + 1) σ5 H5 → ∃ m, m < xs.length - i ∧ ∃ i' σ' H', m = xs.length - i' ∧ i' ≤ xs.length ∧ s5.gens = s.gens ∧ Inv X pins σ' H' s5 ∧ (∃ old, IsEnum s5.heap en it (i' : Int) old) ∧ s5.heap.IsListIter it a i' ∧ (∀ b ∈ [en, it], H' b = none) ∧ Pv i' σ' H' := fun σ5 H5 I5 pv5 => by
      have pe := I5.pin (en, _) (List.mem_append_right _ (List.mem_append_right _ (mem_pinsAt (by simp) hen3)))
      have pi := I5.pin (it, _) (List.mem_append_right _ (List.mem_append_right _ (mem_pinsAt (by simp) eoi)))
      refine ⟨xs.length - (i + 1), by omega, i + 1, σ5, H5, rfl, lt, gg, I5.unpinned, ⟨u, ?_⟩, ⟨oi, pi.1, ci, di⟩, fun b hb => ?_, pv5⟩
      · have e1 : ((i + 1 : Nat) : Int) = (i : Int) + 1 := by omega
        rw [e1]
        exact pe.1
      · have e' : b = en ∨ b = it := by simpa using hb
        rcases e' with z | z
        · rw [z]
          exact pe.2.1
        · rw [z]
          exact pi.2.1
    match fl, q5 with
    | .next, ⟨σ5, H5, I5, pv5⟩ => exact again σ5 H5 I5 pv5
    | .cont, ⟨σ5, H5, I5, pv5⟩ => exact again σ5 H5 I5 pv5
    | .brk, ⟨σ5, H5, I5, qd⟩ => exact ⟨gg, σ5, H5, I5.unpinned, qd⟩
    | .ret v, ⟨x5, σ5, H5, I5, rv5, qd⟩ => exact ⟨gg, x5, σ5, H5, I5.unpinned, rv5, qd⟩
  · obtain rfl : i = xs.length := by omega
    refine wpAny_pyNext_enum_end (I'.ok.hd hc) hen' hit' p2.isList (by simp; omega) fun h2 eb => ?_
    obtain ⟨f0, f1, f2, f3, f4, f5⟩ := fpk' it (by simp)
    have I3 : Inv X pins σ' H' { s' with heap := h2 } := I'.turned (t' := s'.toks) (fun b o hb q => eb b o hb q) f0 f1 f3 f4 f5
    exact wpAny_execs_nil ⟨g2, σ', H', I3, fin σ' H' pv⟩
end
end Sq
set_option Elab.async false
set_option linter.all false
set_option maxRecDepth 100000
set_option maxHeartbeats 2000000
/-! The first segment of a generator, its end told freely. -/
namespace PySem
open Sem (wp)
/-- from here the run comes to an end (a return or a yield) of which Φ is true -/
def SegT (M : Model) (A : Around) (Φ : End → Shared → Prop) (c : Code) (t : Sem Fin) (fs : List Frame) (s : Shared) : Prop := ∀ Γ p, Γ.code = c → Γ.Woken A → ∃ e s', Runs M Γ p t fs s e s' ∧ Φ e s'
theorem segT_of {M : Model} {A : Around} {R : GenEnd} {Y : Protocol} {n : Nat} {s₀ : Shared} {Φ : End → Shared → Prop} {c : Code} {t : Sem Fin} {fs : List Frame} {s : Shared} (h : Seg M A R Y n s₀ c t fs s) (hΦ : ∀ e s', SegEnd R Y n (Seg.next M A R Y n) s₀ e s' → Φ e s') : SegT M A Φ c t fs s := fun Γ p hc hw => by
  obtain ⟨e, s', r, he⟩ := seg_iff.mp h Γ p hc hw
  exact ⟨e, s', r, hΦ e s' he⟩
section
variable {M : Model} {A : Around} {Φ : End → Shared → Prop} {c : Code} {fs : List Frame} {s : Shared} {env : Env} {K : Flow → Sem Fin} {H : Value → Sem Fin} {gd : Bool → Bool} {lv : List Value → List Value}
theorem segT_wrap {α : Type} {m : Sem α} {K : α → Sem Fin} {H : Value → Sem Fin} {gd lv} (h : wpAny M (A.over c fs) m (fun a s' => SegT M A Φ c (K a) fs s') (fun x s' => SegT M A Φ c (H x) fs s') s) : SegT M A Φ c (m.wrap K H gd lv) fs s := by
  intro Γ p hc hΓ
  subst hc
  exact runs_wrap_of_wp K H gd lv m (h (Γ.over fs) p (hΓ.over fs)) (fun a p' s' h' => h' Γ p' rfl hΓ) (fun x p' s' h' => h' Γ p' rfl hΓ)
theorem segT_bind {α β : Type} {m : Sem α} {K : α → Sem β} {K' : β → Sem Fin} {H' : Value → Sem Fin} {gd lv} (h : wpAny M (A.over c fs) m (fun a s' => SegT M A Φ c ((K a).wrap K' H' gd lv) fs s') (fun x s' => SegT M A Φ c (H' x) fs s') s) : SegT M A Φ c ((m >>= K).wrap K' H' gd lv) fs s := by
  rw [Sem.bind_eq_wrap', Sem.wrap_wrap]
  exact segT_wrap h
theorem segT_point {l : List Value} {k : Unit → Sem Fin} (h : SegT M A Φ c (k ()) fs s) : SegT M A Φ c (.point l k) fs s :=
  segT_wrap (m := point) (K := k) (H := .raise) (gd := id) (lv := fun _ => l) (wpAny_point h)
theorem segT_cons {st : Stmt} {rest : List Stmt} (h : SegT M A Φ c ((exec st env).wrap (fun f => match f with | .next => (execs rest env).wrap K H gd lv | f => K f) H gd lv) fs s) : SegT M A Φ c ((execs (st :: rest) env).wrap K H gd lv) fs s := by
  rw [execs_cons_wrap]
  exact h
end
section
variable {prog : Program} {w : World} {A : Around} {Φ : End → Shared → Prop} {fs : List Frame} {s : Shared} {env : Env}
theorem segT_func {body : List Stmt} (h : SegT (model prog w) A Φ (.func body env) ((execs body env).wrap (fun f => .pure (.done (.ret (match f with | .ret v => v | _ => .none)))) (fun e => (leaving env e).wrap (fun _ => .raise e) .raise id id) id id) fs s) :
    SegT (model prog w) A Φ (.func body env) ((model prog w).den (.func body env)) fs s := by
  show SegT _ A Φ _ (.point [] fun _ => ((execs body env).onRaise (leaving env)) >>= _) fs s
  refine segT_point ?_
  rw [Sem.onRaise_eq_wrap, Sem.bind_eq_wrap', Sem.wrap_wrap]
  rw [Sem.wrap_congr (execs body env) _ _ (K' := fun f => .pure (.done (.ret (match f with | .ret v => v | _ => .none))))
    (H' := fun e => (leaving env e).wrap (fun _ => .raise e) .raise id id) (fun f => by cases f <;> rfl)
    (fun e => by rw [Sem.bind_eq_wrap, Sem.wrap_wrap]; rfl)]
  exact h
/-- a fresh generator is woken -/
theorem wpAny_resumeT {E : Value → Shared → Prop} {g : Nat} {r : Resume} {l : List Value} {α : Type} {k : GenResult → Sem α} {Q : α → Shared → Prop} {c : Code} (hg : s.gens[g]? = some (.fresh c)) (hr : r = .send .none)
    (hgo : SegT (model prog w) A Φ c ((model prog w).den c) [] (s.setGen g .running)) (hq : ∀ e s', Φ e s' → e.quiet = true)
    (fin : ∀ e s', Φ e s' → wpAny (model prog w) A (k e.result) Q E (s'.setGen g e.genState)) : wpAny (model prog w) A (.resume g r l k) Q E s := by
  subst hr
  intro Γ p hΓ
  rw [Sem.wp_resume]
  obtain ⟨e₁, s₁, rr, he⟩ := hgo (Γ.wake c p) p rfl (hΓ.wake c p)
  exact ⟨_, _, by unfold Wakes; rw [hg]; exact ⟨e₁, s₁, rr, hq e₁ s₁ he, rfl, rfl⟩, fin e₁ s₁ he Γ p hΓ⟩
end
end PySem
set_option Elab.async false
set_option linter.all false
set_option maxRecDepth 100000
set_option maxHeartbeats 2000000
/-! As SqMB, where the list is made by the generator itself. -/
namespace Sq
open PySem PySem.Spec PyProof.Rows L2 GenW
def alH (al : Addr) (ns : List Int) : Hp := fun b => if b = al then some (.lst (ns.map V.int)) else none
theorem alH_at {al : Addr} {ns : List Int} : alH al ns al = some (.lst (ns.map V.int)) := if_pos rfl
theorem alH_ne {al b : Addr} {ns : List Int} (h : b ≠ al) : alH al ns b = none := if_neg h
/-- the generator's frame and its cells -/
def Reg (n0 : Addr) (sc : Scope) (b : Addr) : Prop := b = n0 ∨ ∃ x, (cellsFrom (n0 + 1) sc.names []).lookup x = some b
/-- what the generator alone changes -/
def Mine (h : Heap) (R : Addr → Prop) (a al : Addr) (b : Addr) : Prop := R b ∨ (a < b ∧ ∃ j, h.IsListIter b al j)
open Classical in
noncomputable def hxH (h : Heap) (R : Addr → Prop) (n0 a al : Addr) (ns : List Int) : Hp := fun b => if b = al then some (.lst (ns.map V.int)) else if n0 ≤ b ∧ b ≠ a ∧ ¬ Mine h R a al b then (h.get? b).map (HidO b) else none
structure Xg where
  P : Program
  w : World
  K : PySem.W.Frag
  mg : Str → Option Value
  base : Heap
  N : List Str
  qual : Str
  scope : Scope
  f : Addr
  cd : Value
  A : Around
  outer : List Env
  n0 : Addr
  a : Addr
  go : Obj
  g : Nat
  al : Addr
  ns : List Int
  tot : Nat
  val : Nat → Int
abbrev Xg.reg (G : Xg) : Addr → Prop := Reg G.n0 G.scope
noncomputable abbrev Xg.hx (G : Xg) (s : Shared) : Hp := hxH s.heap G.reg G.n0 G.a G.al G.ns
noncomputable abbrev Xg.cx (G : Xg) (s : Shared) : Cx := lcx G.P G.w G.K G.mg G.base G.N G.qual G.scope G.f G.cd G.A G.outer G.n0 (cutSh s G.n0) (G.hx s) E0 [(G.a, G.go)]
abbrev Xg.md (G : Xg) : Model := model G.P G.w
abbrev Xg.E0 (G : Xg) (s : Shared) : Prop := Env0 G.P G.w G.K G.mg G.base G.A G.outer s (alH G.al G.ns)
structure Xg.Ok (G : Xg) : Prop where
  low : ∀ b ∈ frs G.outer, b < G.n0
  alne : ¬ G.reg G.al ∧ G.al ≠ G.a
  na : G.n0 < G.a
  bsz : G.base.objs.size ≤ G.n0
  cellR : ∀ x c, (cellsFrom (G.n0 + 1) G.scope.names []).lookup x = some c → G.n0 < c ∧ c < G.a
  isG : ∀ h : Heap, h.get? G.a = some G.go → h.IsGen G.a G.g
theorem Xg.Ok.rlt {G : Xg} (ok : G.Ok) {b : Addr} (m : G.reg b) : G.n0 ≤ b ∧ b < G.a := by
  rcases m with z | ⟨x, q⟩
  · rw [z]
    exact ⟨Nat.le_refl _, ok.na⟩
  · exact ⟨Nat.le_of_lt (ok.cellR x b q).1, (ok.cellR x b q).2⟩
/-- a frame or a cell -/
def FrO (o : Obj) : Prop := (∃ es ep, o.data = .dict es ep) ∨ ∃ v, o.data = .cell v
structure KeepX (G : Xg) (s₀ s : Shared) : Prop where
  os : s.os = s₀.os
  gens : s.gens = s₀.gens
  bare : AllBare s.gens
  keep : ∀ b o, s₀.heap.get? b = some o → b ∉ frs G.outer → ¬ Mine s₀.heap G.reg G.a G.al b → b ≠ G.al → s.heap.get? b = some o
  slot : ∀ b o, s₀.heap.get? b = some o → b ∈ frs G.outer → ∃ sl, s.heap.get? b = some { o with slots := sl }
  lst : HOk G.P G.w (alH G.al G.ns) s.heap
  there : ∀ b, G.reg b → ∃ o, s.heap.get? b = some o ∧ FrO o
def Xg.Y (G : Xg) : Protocol := fun n s₀ v s kap => ∃ i, n + 1 + i = G.tot ∧ (∃ t, v = .int (G.val i) t) ∧ KeepX G s₀ s ∧
  ∀ s2, G.E0 s2 → (∀ b o, (b = G.a ∨ Mine s.heap G.reg G.a G.al b) → s.heap.get? b = some o → s2.heap.get? b = some o) → kap (.send .none) s2
def Xg.R (G : Xg) : GenEnd := fun n s₀ r s => (r = .ok (.ret .none) ∨ r = .ok .next) ∧ n = 0 ∧ KeepX G s₀ s
section
variable {G : Xg} {ip : List (Addr × Obj)} {σ : L2.St} {H : Hp} {s s₀ s2 : Shared}
theorem hx_al {G : Xg} {s : Shared} : G.hx s G.al = some (.lst (G.ns.map V.int)) := if_pos rfl
theorem hx_mine {b : Addr} (hb : b ≠ G.al) (m : b = G.a ∨ Mine s.heap G.reg G.a G.al b ∨ b < G.n0) : G.hx s b = none := by
  show hxH _ _ _ _ _ _ b = none
  unfold hxH
  rw [if_neg hb, if_neg]
  rintro ⟨h1, h2, h3⟩
  rcases m with m | m | m
  · exact h2 m
  · exact h3 m
  · exact absurd m (Nat.not_lt_of_le h1)
theorem hx_hid {b : Addr} {o : Obj} (hb : b ≠ G.al) (h1 : G.n0 ≤ b) (h2 : b ≠ G.a) (h3 : ¬ Mine s.heap G.reg G.a G.al b) (e : s.heap.get? b = some o) : G.hx s b = some (HidO b o) := by
  show hxH _ _ _ _ _ _ b = _
  unfold hxH
  rw [if_neg hb, if_pos ⟨h1, h2, h3⟩, e]
  rfl
theorem hx_ok (e : G.E0 s) : HOk G.P G.w (G.hx s) s.heap := fun b u q => by
  by_cases hb : b = G.al
  · subst hb
    rw [hx_al] at q
    cases q
    refine (e.hok G.al _ alH_at).stay (fun _ _ _ z => z) (fun c z => ?_) fun c xs z => ?_
    · by_cases hc : c = G.al
      · subst hc
        rw [alH_at] at z
        cases z
      · rw [alH_ne hc] at z
        cases z
    · by_cases hc : c = G.al
      · subst hc
        rw [alH_at] at z
        cases z
      · rw [alH_ne hc] at z
        cases z
  · have q : hxH s.heap G.reg G.n0 G.a G.al G.ns b = some u := q
    unfold hxH at q
    rw [if_neg hb] at q
    split at q
    · cases r : s.heap.get? b with
      | none => rw [r] at q; cases q
      | some o =>
        rw [r] at q
        cases q
        exact ⟨r, ⟨o, r⟩, fun h1 h2 a k => k o a⟩
    · cases q
/-- the generator, where it is woken -/
theorem wake_in (ok : G.Ok) (I : Inv (G.cx s₀) ip σ H s) (hip : ∀ p ∈ ip, Mine s.heap G.reg G.a G.al p.1) (e : G.E0 s2) (own : ∀ b o, (b = G.a ∨ Mine s.heap G.reg G.a G.al b) → s.heap.get? b = some o → s2.heap.get? b = some o) : Inv (G.cx s2) ip σ (G.hx s2) s2 := by
  have mine2 : ∀ b, Mine s.heap G.reg G.a G.al b → Mine s2.heap G.reg G.a G.al b := fun b m => by
    rcases m with m | ⟨h1, j, h2⟩
    · exact .inl m
    · refine .inr ⟨h1, j, ?_⟩
      obtain ⟨o, eo, r⟩ := h2
      exact ⟨o, own b o (.inr (.inr ⟨h1, j, o, eo, r⟩)) eo, r⟩
  have low : ∀ {b : Addr}, b < G.n0 → b ≠ G.al → G.hx s2 b = none := fun {b} lt ne => hx_mine ne (.inr (.inr lt))
  have mC : ∀ x c, (G.cx s₀).env.cells.lookup x = some c → Mine s.heap G.reg G.a G.al c := fun x c q => .inl (.inr ⟨x, q⟩)
  have nal : ∀ {b : Addr}, G.reg b → b ≠ G.al := fun m z => ok.alne.1 (z ▸ m)
  refine ⟨⟨I.ok.mod, I.ok.kind, I.ok.glob, I.ok.blt, ?_, I.ok.inj, I.ok.has, fun x k h q => ?_, I.ok.hd, I.ok.frames, I.ok.stk, fun b z => absurd z List.not_mem_nil, fun b o q => ?_, ?_, fun b o q => List.not_mem_nil, fun b z => absurd z List.not_mem_nil, frames_cut e.funs ok.low, fun b hb => ?_⟩,
    rfl, e.bare, Un.kept fun b u q => (cutH_get.mp q).2, ?_, fun x k q => ?_, ?_, fun x k q => ?_, fun p hp => ?_, hx_ok e, I.len⟩
  · show (cutH s2.heap G.n0).objs.size ≤ G.n0
    rw [cutH_size]
    exact Nat.min_le_left _ _
  · show (cutH s2.heap G.n0).objs.size ≤ k
    rw [cutH_size]
    exact Nat.le_trans (Nat.min_le_left _ _) (Nat.le_of_lt (ok.cellR x k q).1)
  · obtain ⟨h1, h2⟩ := e.bs b o q
    have lt : b < G.n0 := Nat.lt_of_lt_of_le (Heap.lt_size q) ok.bsz
    refine ⟨cutH_get.mpr ⟨lt, h1⟩, low lt fun z => ?_⟩
    rw [z, alH_at] at h2
    cases h2
  · show G.base.objs.size ≤ (cutH s2.heap G.n0).objs.size
    rw [cutH_size]
    exact Nat.le_min.mpr ⟨ok.bsz, e.bsz⟩
  · refine low (ok.low b hb) fun z => ?_
    have := e.frf b hb
    rw [z, alH_at] at this
    cases this
  · obtain ⟨m, ⟨o, es, ep, ho, r⟩, hl⟩ := I.loc
    refine ⟨m, ⟨o, es, ep, own _ _ (.inr (.inl (.inl rfl))) ho, r⟩, fun i x v h1 h2 h3 => ?_⟩
    obtain ⟨u, rv, lk⟩ := hl i x v h1 h2 h3
    refine ⟨u, rv, ?_⟩
    rcases lk with z | ⟨kd, k, q, ic⟩
    · exact .inl z
    · obtain ⟨oc, eo, rc⟩ := ic
      exact .inr ⟨kd, k, q, oc, own _ _ (.inr (mC x k q)) eo, rc⟩
  · obtain ⟨v, oc, eo, rc⟩ := I.cell x k q
    exact ⟨v, oc, own _ _ (.inr (mC x k q)) eo, rc⟩
  · exact hx_mine (nal (.inl rfl)) (.inr (.inl (.inl (.inl rfl))))
  · exact hx_mine (nal (.inr ⟨x, q⟩)) (.inr (.inl (mine2 _ (mC x k q))))
  · obtain ⟨h1, _, h3, h4, h5⟩ := I.pin p hp
    rcases List.mem_append.mp hp with z | z
    · rw [List.mem_singleton.mp z] at h1 h3 h4 h5 ⊢
      exact ⟨own _ _ (.inl rfl) h1, hx_mine ok.alne.2.symm (.inl rfl), h3, h4, h5⟩
    · have m := hip p z
      refine ⟨own _ _ (.inr m) h1, hx_mine (fun z => ?_) (.inr (.inl (mine2 _ m))), h3, h4, h5⟩
      rcases mine2 _ m with w | ⟨_, k, o', e', c', d'⟩
      · exact nal w z
      · obtain ⟨_, its, nn, _, hl⟩ := e.hok G.al _ alH_at
        rw [z, hl] at e'
        cases e'
        cases d'
/-- what a turn keeps -/
theorem keepx_of (ok : G.Ok) (e0 : G.E0 s₀) (I : Inv (G.cx s₀) ip σ H s) (sm : Same (G.hx s₀) H) (gens : s.gens = s₀.gens) (hgo : s₀.heap.get? G.a = some G.go) : KeepX G s₀ s := by
  refine ⟨I.os, gens, I.bare, fun b o q nf nm na => ?_, fun b o q hf => ?_, fun b u q => ?_, ?_⟩
  · by_cases lt : b < G.n0
    · exact I.base.keep b o (cutH_get.mpr ⟨lt, q⟩) (hx_mine na (.inr (.inr lt))) nf List.not_mem_nil
    · by_cases ba : b = G.a
      · subst ba
        rw [hgo] at q
        cases q
        exact (I.pin (G.a, G.go) (List.mem_append_left _ (List.mem_singleton.mpr rfl))).1
      · exact (I.hok b _ (sm _ _ (hx_hid na (Nat.le_of_not_lt lt) ba nm q))).1
  · have lt := ok.low b hf
    refine I.base.slot b o (cutH_get.mpr ⟨lt, q⟩) (hx_mine (fun z => ?_) (.inr (.inr lt))) hf List.not_mem_nil
    have := e0.frf b hf
    rw [z, alH_at] at this
    cases this
  · by_cases hb : b = G.al
    · subst hb
      rw [alH_at] at q
      cases q
      obtain ⟨z, its, n, r, eo⟩ := I.hok G.al _ (sm _ _ hx_al)
      exact ⟨z, its, n, r, eo⟩
    · rw [alH_ne hb] at q
      cases q
  · intro b m
    rcases m with m | ⟨x, q⟩
    · rw [m]
      obtain ⟨m, ⟨o, es, ep, ho, r⟩, hl⟩ := I.loc
      exact ⟨o, ho, .inl ⟨es, ep, r.1⟩⟩
    · obtain ⟨v, o, ho, hd⟩ := I.cell x b q
      exact ⟨o, ho, .inr ⟨v, hd⟩⟩
end
end Sq
set_option Elab.async false
set_option linter.all false
set_option maxRecDepth 100000
set_option maxHeartbeats 2000000
namespace Sq
open PySem PySem.Spec PyProof.Rows L2 GenW
abbrev Xg.env (G : Xg) : Env := envOfC G.qual G.scope G.n0 G.f G.cd
structure Xg.GC (G : Xg) (ip : List (Addr × Obj)) (c : Code) (fs : List Frame) (gd : Bool → Bool) : Prop where
  over : G.A.over c fs = G.A.deeper G.env
  split : splitAtGen fs = none
  guard : fs.any Frame.guarded = false
  gd : gd false = false
  low : ∀ p ∈ ip, G.a < p.1 ∧ ∀ h : Heap, h.get? p.1 = some p.2 → ∃ j, h.IsListIter p.1 G.al j
def Xg.Seat (G : Xg) (s₀ : Shared) : Prop := G.E0 s₀ ∧ s₀.heap.get? G.a = some G.go
structure Xg.GK (G : Xg) (ip : List (Addr × Obj)) (c : Code) (fs : List Frame) (Kf : Flow → Sem PySem.Fin) (Je : Value → Sem PySem.Fin) (D : GEndL) : Prop where
  ok : ∀ (n i : Nat) (s₀ s : Shared) (fl : Flow), n + i = G.tot → G.Seat s₀ → s.gens = s₀.gens → SP (G.cx s₀) ip (D.at i (G.hx s₀)) fl s → Seg G.md G.A G.R G.Y n s₀ c (Kf fl) fs s
  exc : ∀ (n : Nat) (s₀ : Shared) (e : Value) (s : Shared), G.Seat s₀ → (G.cx s₀).xe e s → Seg G.md G.A G.R G.Y n s₀ c (Je e) fs s
end Sq
set_option Elab.async false
set_option linter.all false
set_option maxRecDepth 100000
set_option maxHeartbeats 2000000
/-! A generator that has not begun and will make its list itself: what it reads is W; where it is woken; when its list stands. -/
namespace Sq
open PySem PySem.Spec PyProof.Rows L2 GenW
structure Vg where
  P : Program
  w : World
  K : PySem.W.Frag
  mg : Str → Option Value
  base : Heap
  N : List Str
  qual : Str
  scope : Scope
  f : Addr
  cd : Value
  A : Around
  outer : List Env
  n0 : Addr
  a : Addr
  go : Obj
  g : Nat
  W : Hp
open Classical in
noncomputable def hxV (h : Heap) (R : Addr → Prop) (n0 a : Addr) (W : Hp) : Hp := fun b => match W b with | some u => some u | none => if n0 ≤ b ∧ b ≠ a ∧ ¬ R b then (h.get? b).map (HidO b) else none
abbrev Vg.reg (G : Vg) : Addr → Prop := Reg G.n0 G.scope
noncomputable abbrev Vg.hx (G : Vg) (s : Shared) : Hp := hxV s.heap G.reg G.n0 G.a G.W
noncomputable abbrev Vg.cx (G : Vg) (s : Shared) : Cx := lcx G.P G.w G.K G.mg G.base G.N G.qual G.scope G.f G.cd G.A G.outer G.n0 (cutSh s G.n0) (G.hx s) E0 [(G.a, G.go)]
abbrev Vg.md (G : Vg) : Model := model G.P G.w
abbrev Vg.E0 (G : Vg) (s : Shared) : Prop := Env0 G.P G.w G.K G.mg G.base G.A G.outer s G.W
structure Vg.Ok (G : Vg) : Prop where
  low : ∀ b ∈ frs G.outer, b < G.n0
  na : G.n0 < G.a
  bsz : G.base.objs.size ≤ G.n0
  cellR : ∀ x c, (cellsFrom (G.n0 + 1) G.scope.names []).lookup x = some c → G.n0 < c ∧ c < G.a
  isG : ∀ h : Heap, h.get? G.a = some G.go → h.IsGen G.a G.g
  wlow : ∀ b u, G.W b = some u → b < G.n0
  wkind : ∀ b u, G.W b = some u → (∃ φ, u = .ext φ) ∨ ∃ xs, u = .lst xs
theorem funs_slotsV {h h' base : Heap} : ∀ {l : List Env}, h.FunFrames base l → (∀ b o, h.get? b = some o → b ∈ frs l → ∃ sl, h'.get? b = some { o with slots := sl }) → h'.FunFrames base l
  | [], _, _ => trivial
  | env :: l, q, k => by
    obtain ⟨hk, ⟨L, o, hf, hn, ho, hd⟩, hr⟩ := q
    have eL : frs (env :: l) = L :: frs l := by
      unfold frs
      rw [List.filterMap_cons, hf]
    rw [eL] at k
    obtain ⟨sl, e⟩ := k L o ho List.mem_cons_self
    exact ⟨hk, ⟨L, _, hf, hn, e, hd⟩, funs_slotsV hr fun b o e hb => k b o e (List.mem_cons_of_mem _ hb)⟩
theorem base_noV {h base : Heap} : ∀ {l : List Env}, h.FunFrames base l → ∀ b o, base.get? b = some o → b ∉ frs l
  | [], _, b, o, e => List.not_mem_nil
  | env :: l, q, b, o, e => by
    obtain ⟨hk, ⟨L, o', hf, hn, ho, hd⟩, hr⟩ := q
    have eL : frs (env :: l) = L :: frs l := by
      unfold frs
      rw [List.filterMap_cons, hf]
    rw [eL]
    intro m
    rcases List.mem_cons.mp m with z | z
    · rw [z, hn] at e
      cases e
    · exact base_noV hr b o e z
section
variable {G : Vg} {σ : L2.St} {H : Hp} {s s₀ s2 : Shared}
theorem hv_W {b : Addr} {u : HO} (e : G.W b = some u) : G.hx s b = some u := by
  show hxV _ _ _ _ _ _ = _
  unfold hxV
  rw [e]
open Classical in
theorem hv_mine {b : Addr} (hb : G.W b = none) (m : b = G.a ∨ G.reg b ∨ b < G.n0) : G.hx s b = none := by
  show hxV _ _ _ _ _ _ = none
  unfold hxV
  rw [hb]
  show (if _ then _ else _) = none
  rw [if_neg]
  rintro ⟨h1, h2, h3⟩
  rcases m with m | m | m
  · exact h2 m
  · exact h3 m
  · exact absurd h1 (Nat.not_le_of_lt m)
open Classical in
theorem hv_hid {b : Addr} {o : Obj} (hb : G.W b = none) (h1 : G.n0 ≤ b) (h2 : b ≠ G.a) (h3 : ¬ G.reg b) (e : s.heap.get? b = some o) : G.hx s b = some (HidO b o) := by
  show hxV _ _ _ _ _ _ = _
  unfold hxV
  rw [hb]
  show (if _ then _ else _) = _
  rw [if_pos ⟨h1, h2, h3⟩, e]
  rfl
theorem Vg.Ok.wa (ok : G.Ok) : G.W G.a = none := by
  cases e : G.W G.a with
  | none => rfl
  | some u => exact absurd (Nat.lt_trans ok.na (Nat.lt_of_lt_of_le (ok.wlow _ _ e) (Nat.le_refl _))) (by omega)
theorem Vg.Ok.wr (ok : G.Ok) {b : Addr} (m : G.reg b) : G.W b = none := by
  cases e : G.W b with
  | none => rfl
  | some u =>
    have lt := ok.wlow _ _ e
    rcases m with z | ⟨x, q⟩
    · rw [z] at lt
      exact absurd lt (Nat.lt_irrefl _)
    · exact absurd (Nat.lt_trans lt (ok.cellR x b q).1) (Nat.lt_irrefl _)
theorem Vg.Ok.wn (ok : G.Ok) : G.W G.n0 = none := ok.wr (.inl rfl)
theorem Vg.Ok.rlt (ok : G.Ok) {b : Addr} (m : G.reg b) : G.n0 ≤ b ∧ b < G.a := by
  rcases m with z | ⟨x, q⟩
  · rw [z]
    exact ⟨Nat.le_refl _, ok.na⟩
  · exact ⟨Nat.le_of_lt (ok.cellR x b q).1, (ok.cellR x b q).2⟩
open Classical in
theorem hv_ok (e : G.E0 s) : HOk G.P G.w (G.hx s) s.heap := fun b u q => by
  cases hb : G.W b with
  | some u' =>
    rw [hv_W hb] at q
    cases q
    exact (e.hok b _ hb).stay (fun _ _ _ z => z) (fun c z => hv_W z) fun c xs z => hv_W z
  | none =>
    have q : hxV s.heap G.reg G.n0 G.a G.W b = some u := q
    unfold hxV at q
    rw [hb] at q
    change (if _ then _ else _) = _ at q
    split at q
    · cases r : s.heap.get? b with
      | none => rw [r] at q; cases q
      | some o =>
        rw [r] at q
        cases q
        exact ⟨r, ⟨o, r⟩, fun h1 h2 k1 k => k o k1⟩
    · cases q
/-- the generator, where it is woken -/
theorem wakeV (ok : G.Ok) (I : Inv (G.cx s₀) [] σ H s) (e : G.E0 s2) (own : ∀ b o, (b = G.a ∨ G.reg b) → s.heap.get? b = some o → s2.heap.get? b = some o) : Inv (G.cx s2) [] σ (G.hx s2) s2 := by
  have low : ∀ {b : Addr}, b < G.n0 → G.W b = none → G.hx s2 b = none := fun {b} lt ne => hv_mine ne (.inr (.inr lt))
  refine ⟨⟨I.ok.mod, I.ok.kind, I.ok.glob, I.ok.blt, ?_, I.ok.inj, I.ok.has, fun x k h q => ?_, I.ok.hd, I.ok.frames, I.ok.stk, fun b z => absurd z List.not_mem_nil, fun b o q => ?_, ?_, fun b o q => List.not_mem_nil, fun b z => absurd z List.not_mem_nil, frames_cut e.funs ok.low, fun b hb => ?_⟩,
    rfl, e.bare, Un.kept fun b u q => (cutH_get.mp q).2, ?_, fun x k q => ?_, ?_, fun x k q => ?_, fun p hp => ?_, hv_ok e, I.len⟩
  · show (cutH s2.heap G.n0).objs.size ≤ G.n0
    rw [cutH_size]
    exact Nat.min_le_left _ _
  · show (cutH s2.heap G.n0).objs.size ≤ k
    rw [cutH_size]
    exact Nat.le_trans (Nat.min_le_left _ _) (Nat.le_of_lt (ok.cellR x k q).1)
  · obtain ⟨h1, h2⟩ := e.bs b o q
    have lt : b < G.n0 := Nat.lt_of_lt_of_le (Heap.lt_size q) ok.bsz
    exact ⟨cutH_get.mpr ⟨lt, h1⟩, low lt h2⟩
  · show G.base.objs.size ≤ (cutH s2.heap G.n0).objs.size
    rw [cutH_size]
    exact Nat.le_min.mpr ⟨ok.bsz, e.bsz⟩
  · exact low (ok.low b hb) (e.frf b hb)
  · obtain ⟨m, ⟨o, es, ep, ho, r⟩, hl⟩ := I.loc
    refine ⟨m, ⟨o, es, ep, own _ _ (.inr (.inl rfl)) ho, r⟩, fun i x v h1 h2 h3 => ?_⟩
    obtain ⟨u, rv, lk⟩ := hl i x v h1 h2 h3
    refine ⟨u, rv, ?_⟩
    rcases lk with z | ⟨kd, k, q, ic⟩
    · exact .inl z
    · obtain ⟨oc, eo, rc⟩ := ic
      exact .inr ⟨kd, k, q, oc, own _ _ (.inr (.inr ⟨x, q⟩)) eo, rc⟩
  · obtain ⟨v, oc, eo, rc⟩ := I.cell x k q
    exact ⟨v, oc, own _ _ (.inr (.inr ⟨x, q⟩)) eo, rc⟩
  · exact hv_mine ok.wn (.inr (.inl (.inl rfl)))
  · exact hv_mine (ok.wr (.inr ⟨x, q⟩)) (.inr (.inl (.inr ⟨x, q⟩)))
  · obtain ⟨h1, _, h3, h4, h5⟩ := I.pin p hp
    have z : p = (G.a, G.go) := by
      rcases List.mem_append.mp hp with z | z
      · exact List.mem_singleton.mp z
      · exact absurd z List.not_mem_nil
    rw [z] at h1 h3 h4 h5 ⊢
    exact ⟨own _ _ (.inl rfl) h1, hv_mine ok.wa (.inl rfl), h3, h4, h5⟩
/-- with its list -/
abbrev Vg.x (G : Vg) (al : Addr) (ns : List Int) (tot : Nat) (val : Nat → Int) : Xg := ⟨G.P, G.w, G.K, G.mg, G.base, G.N, G.qual, G.scope, G.f, G.cd, G.A, G.outer, G.n0, G.a, G.go, G.g, al, ns, tot, val⟩
/-- what the code before the list stands has left -/
structure KeptV (G : Vg) (s₀ s : Shared) : Prop where
  os : s.os = s₀.os
  gens : s.gens = s₀.gens
  bare : AllBare s.gens
  keep : ∀ b o, s₀.heap.get? b = some o → b ∉ frs G.outer → ¬ G.reg b → G.W b = none → s.heap.get? b = some o
  slot : ∀ b o, s₀.heap.get? b = some o → b ∈ frs G.outer → ∃ sl, s.heap.get? b = some { o with slots := sl }
  hokW : HOk G.P G.w G.W s.heap
  there : ∀ b, G.reg b → ∃ o, s.heap.get? b = some o ∧ FrO o
theorem keptV_of (ok : G.Ok) (e0 : G.E0 s₀) (I : Inv (G.cx s₀) [] σ H s) (sm : Same (G.hx s₀) H) (gens : s.gens = s₀.gens) (hgo : s₀.heap.get? G.a = some G.go) : KeptV G s₀ s := by
  refine ⟨I.os, gens, I.bare, fun b o q nf nm na => ?_, fun b o q hf => ?_, fun b u q => ?_, ?_⟩
  · by_cases lt : b < G.n0
    · exact I.base.keep b o (cutH_get.mpr ⟨lt, q⟩) (hv_mine na (.inr (.inr lt))) nf List.not_mem_nil
    · by_cases ba : b = G.a
      · subst ba
        rw [hgo] at q
        cases q
        exact (I.pin (G.a, G.go) (List.mem_append_left _ (List.mem_singleton.mpr rfl))).1
      · exact (I.hok b _ (sm _ _ (hv_hid na (Nat.le_of_not_lt lt) ba nm q))).1
  · have lt := ok.low b hf
    exact I.base.slot b o (cutH_get.mpr ⟨lt, q⟩) (hv_mine (e0.frf b hf) (.inr (.inr lt))) hf List.not_mem_nil
  · have x := I.hok b u (sm _ _ (hv_W q))
    rcases ok.wkind b u q with ⟨φ, rfl⟩ | ⟨xs, rfl⟩
    · exact x
    · obtain ⟨z, its, n, r, e⟩ := x
      exact ⟨z, its, n, r, e⟩
  · intro b m
    rcases m with m | ⟨x, q⟩
    · rw [m]
      obtain ⟨m, ⟨o, es, ep, ho, r⟩, hl⟩ := I.loc
      exact ⟨o, ho, .inl ⟨es, ep, r.1⟩⟩
    · obtain ⟨v, o, ho, hd⟩ := I.cell x b q
      exact ⟨o, ho, .inr ⟨v, hd⟩⟩
/-- the list is new -/
theorem list_new (ok : G.Ok) (I : Inv (G.cx s₀) [] σ H s) (sm : Same (G.hx s₀) H) {al : Addr} {ns : List Int} (hal : H al = some (.lst (ns.map V.int))) (nal : G.hx s₀ al = none) : s₀.heap.get? al = none ∧ ¬ G.reg al ∧ al ≠ G.a := by
  have n1 : ¬ G.reg al := fun z => by
    rcases z with z | ⟨x, q⟩
    · have := I.free
      rw [show (G.cx s₀).env.locals = G.n0 from rfl, ← z, hal] at this
      cases this
    · have := I.freeC x al q
      rw [hal] at this
      cases this
  have n2 : al ≠ G.a := fun z => by
    have := (I.pin (G.a, G.go) (List.mem_append_left _ (List.mem_singleton.mpr rfl))).2.1
    rw [← z, hal] at this
    cases this
  refine ⟨?_, n1, n2⟩
  cases e : s₀.heap.get? al with
  | none => rfl
  | some o =>
    have wn : G.W al = none := by
      cases w : G.W al with
      | none => rfl
      | some u => rw [hv_W w] at nal; cases nal
    by_cases lt : al < G.n0
    · have := I.base.free al o (cutH_get.mpr ⟨lt, e⟩) nal List.not_mem_nil
      rw [hal] at this
      cases this
    · rw [hv_hid wn (Nat.le_of_not_lt lt) n2 n1 e] at nal
      cases nal
theorem list_stands (ok : G.Ok) (e0 : G.E0 s₀) (I : Inv (G.cx s₀) [] σ H s) (sm : Same (G.hx s₀) H) (gens : s.gens = s₀.gens) (hgo : s₀.heap.get? G.a = some G.go) {al : Addr} {ns : List Int} (tot : Nat) (val : Nat → Int) (hal : H al = some (.lst (ns.map V.int))) (nal : G.hx s₀ al = none) :
    (G.x al ns tot val).Ok ∧ (G.x al ns tot val).Seat s ∧ Inv ((G.x al ns tot val).cx s) [] σ ((G.x al ns tot val).hx s) s := by
  obtain ⟨new, n1, n2⟩ := list_new ok I sm hal nal
  have kv := keptV_of ok e0 I sm gens hgo
  have okx : (G.x al ns tot val).Ok := ⟨ok.low, ⟨n1, n2⟩, ok.na, ok.bsz, ok.cellR, ok.isG⟩
  have noB : ∀ b o, G.base.get? b = some o → b ≠ al := fun b o q z => by
    have := (e0.bs b o q).1
    rw [z, new] at this
    cases this
  have e1 : (G.x al ns tot val).E0 s := by
    refine ⟨e0.frames, e0.mod, fun b o q => ⟨?_, alH_ne (noB b o q)⟩, ?_, funs_slotsV e0.funs kv.slot, fun b hb => alH_ne fun z => ?_, fun b u q => ?_, kv.bare⟩
    · obtain ⟨h1, h2⟩ := e0.bs b o q
      exact kv.keep b o h1 (base_noV e0.funs b o q) (fun z => absurd (Nat.lt_of_lt_of_le (Heap.lt_size q) ok.bsz) (Nat.not_lt_of_le (ok.rlt z).1)) h2
    · obtain ⟨o, q, _⟩ := kv.there _ (.inl rfl)
      exact Nat.le_trans ok.bsz (Nat.le_of_lt (Heap.lt_size q))
    · have := I.stkFree b (List.mem_cons_of_mem _ hb)
      rw [z, hal] at this
      cases this
    · by_cases hb : b = al
      · subst hb
        rw [alH_at] at q
        cases q
        obtain ⟨z, its, m, r, eo'⟩ := I.hok b _ hal
        exact ⟨z, its, m, r, eo'⟩
      · rw [alH_ne hb] at q
        cases q
  have go1 : s.heap.get? G.a = some G.go := (I.pin (G.a, G.go) (List.mem_append_left _ (List.mem_singleton.mpr rfl))).1
  refine ⟨okx, ⟨e1, go1⟩, ?_⟩
  have low : ∀ {b : Addr}, b < G.n0 → b ≠ al → (G.x al ns tot val).hx s b = none := fun {b} lt ne => hx_mine ne (.inr (.inr lt))
  refine ⟨⟨I.ok.mod, I.ok.kind, I.ok.glob, I.ok.blt, ?_, I.ok.inj, I.ok.has, fun x k h q => ?_, I.ok.hd, I.ok.frames, I.ok.stk, fun b z => absurd z List.not_mem_nil, fun b o q => ?_, ?_, fun b o q => List.not_mem_nil, fun b z => absurd z List.not_mem_nil, frames_cut e1.funs ok.low, fun b hb => ?_⟩,
    rfl, e1.bare, Un.kept fun b u q => (cutH_get.mp q).2, ?_, fun x k q => ?_, ?_, fun x k q => ?_, fun p hp => ?_, hx_ok e1, I.len⟩
  · show (cutH s.heap G.n0).objs.size ≤ G.n0
    rw [cutH_size]
    exact Nat.min_le_left _ _
  · show (cutH s.heap G.n0).objs.size ≤ k
    rw [cutH_size]
    exact Nat.le_trans (Nat.min_le_left _ _) (Nat.le_of_lt (ok.cellR x k q).1)
  · obtain ⟨h1, h2⟩ := e1.bs b o q
    have lt : b < G.n0 := Nat.lt_of_lt_of_le (Heap.lt_size q) ok.bsz
    exact ⟨cutH_get.mpr ⟨lt, h1⟩, low lt (noB b o q)⟩
  · show G.base.objs.size ≤ (cutH s.heap G.n0).objs.size
    rw [cutH_size]
    exact Nat.le_min.mpr ⟨ok.bsz, e1.bsz⟩
  · refine low (ok.low b hb) fun z => ?_
    have := e1.frf b hb
    rw [z, alH_at] at this
    cases this
  · obtain ⟨m, ⟨o, es, ep, ho, r⟩, hl⟩ := I.loc
    refine ⟨m, ⟨o, es, ep, ho, r⟩, fun i x v h1 h2 h3 => ?_⟩
    obtain ⟨u, rv, lk⟩ := hl i x v h1 h2 h3
    refine ⟨u, rv, ?_⟩
    exact lk
  · exact I.cell x k q
  · exact hx_mine (fun z => n1 (.inl (show al = G.n0 from (show G.n0 = al from z).symm))) (.inr (.inl (.inl (.inl rfl))))
  · exact hx_mine (fun z => n1 (.inr ⟨x, (show k = al from z) ▸ q⟩)) (.inr (.inl (.inl (.inr ⟨x, q⟩))))
  · obtain ⟨h1, _, h3, h4, h5⟩ := I.pin p hp
    have z : p = (G.a, G.go) := by
      rcases List.mem_append.mp hp with z | z
      · exact List.mem_singleton.mp z
      · exact absurd z List.not_mem_nil
    rw [z] at h1 h3 h4 h5 ⊢
    exact ⟨h1, hx_mine n2.symm (.inl rfl), h3, h4, h5⟩
end
end Sq
set_option Elab.async false
set_option linter.all false
set_option maxRecDepth 100000
set_option maxHeartbeats 2000000
/-! A generator def whose body is one loop over a list that it makes. -/
namespace Sq
open PySem PySem.Spec PyProof.Rows L2 GenW
abbrev SpV := List V → Hp → List Int → Nat → (Nat → Int) → Prop
/-- the end of the first segment -/
def Vg.Φ (G : Vg) (ns : List Int) (tot : Nat) (val : Nat → Int) (s₀ : Shared) (e : End) (s' : Shared) : Prop := ∃ (al : Addr) (s₁ : Shared), KeptV G s₀ s₁ ∧ s₀.heap.get? al = none ∧ (G.x al ns tot val).Ok ∧ (G.x al ns tot val).E0 s₁ ∧
  SegEnd (G.x al ns tot val).R (G.x al ns tot val).Y tot (Seg.next G.md G.A (G.x al ns tot val).R (G.x al ns tot val).Y tot) s₁ e s'
def VMade (P : Program) (w : World) (K : PySem.W.Frag) (mg : Str → Option Value) (base : Heap) (k : Nat) (outer : List Env) (s : Shared) (W : Hp) (ns : List Int) (tot : Nat) (val : Nat → Int) (u : Value) (s' : Shared) : Prop :=
  ∃ (a : Addr) (code : Code) (sc : Scope), u = .ref a ∧ s.heap.objs.size < a ∧ s'.heap.IsGen a s.gens.size ∧ s'.gens = s.gens.push (.fresh code) ∧ s'.os = s.os ∧ s'.heap.NoLimit ∧ (∀ b o, s.heap.get? b = some o → s'.heap.get? b = some o) ∧ (∀ b, Reg s.heap.objs.size sc b → ∃ o, s'.heap.get? b = some o ∧ FrO o) ∧ (GenState.fresh code).bare = true ∧ s'.heap.objs.size = a + 1 ∧
    ∀ (A : Around), Room k A → A.frames = some outer →
      ∃ G : Vg, G.Ok ∧ G.scope = sc ∧ G.P = P ∧ G.w = w ∧ G.K = K ∧ G.mg = mg ∧ G.base = base ∧ G.A = A ∧ G.outer = outer ∧ G.n0 = s.heap.objs.size ∧ G.a = a ∧ G.g = s.gens.size ∧ G.W = W ∧ ∀ s2, G.E0 s2 → (∀ b o, (b = a ∨ G.reg b) → s'.heap.get? b = some o → s2.heap.get? b = some o) → SegT G.md G.A (G.Φ ns tot val s2) code (G.md.den code) [] s2
structure GFnV (P : Program) (w : World) (K : PySem.W.Frag) (mg : Str → Option Value) (base : Heap) (k : Nat) (f : Addr) (fd : FuncData) (ps : List Str) (sp : SpV) : Prop where
  len : ∀ vs W ns tot val, sp vs W ns tot val → vs.length = ps.length
  run : ∀ (A : Around) (outer : List Env) (s : Shared) (args : Args) (us : List Value) (vs : List V) (W : Hp) (ns : List Int) (tot : Nat) (val : Nat → Int), Room k A → Env0 P w K mg base A outer s W → BindsTo s fd args (ps.zip us) → Vals vs us → sp vs W ns tot val →
    codeAny (model P w) A (.call (.ref f) args) (fun r s' => match r with | .ok (.ret u) => VMade P w K mg base k outer s W ns tot val u s' | _ => False) s
open Classical in
theorem hv_start {G : Vg} {s : Shared} (h : G.n0 = s.heap.objs.size) : G.hx s = G.W := by
  funext b
  show hxV _ _ _ _ _ _ = _
  unfold hxV
  cases hb : G.W b with
  | some u => rfl
  | none =>
    show (if _ then _ else _) = _
    split
    · rename_i c
      cases e : s.heap.get? b with
      | none => rfl
      | some o =>
        have := Heap.lt_size e
        rw [← h] at this
        exact absurd this (Nat.not_lt_of_le c.1)
    · rfl
end Sq
set_option Elab.async false
set_option linter.all false
set_option maxRecDepth 100000
set_option maxHeartbeats 2000000
/-! zip of two generators: its turns. -/
namespace Sq
open PySem PySem.Spec PyProof.Rows L2 GenW
section
variable {P : Program} {w : World} {A : Around} {E : Value → Shared → Prop} {s : Shared}
/-- next of a generator that lets nothing out but its end -/
theorem nextOf_gen {a : Addr} {g n : Nat} {gs : GenState} {R : GenEnd} {Y : Protocol} {Q : Value → Shared → Prop} (hh : A.handled = none) (hl : s.heap.NoLimit) (hroom : A.depth < recursionLimit) (hg : s.heap.IsGen a g) (hgs : s.gens[g]? = some gs)
    (hgo : gs.Goes (model P w) A.in1 R Y n (.send .none) (s.setGen g .running))
    (hY : ∀ v s₁ gs', gs'.bare = true → Y (n - 1) (s.setGen g .running) v s₁ (fun r' s'' => match n with
        | 0 => False
        | m + 1 => gs'.Goes (model P w) A.in1 R Y m r' s'') → Q v (s₁.setGen g gs'))
    (hR : ∀ r s₁, R n (s.setGen g .running) r s₁ → (r = .ok (.ret .none) ∨ r = .ok .next) ∧ ∀ h' e, (∀ b o, s₁.heap.get? b = some o → h'.get? b = some o) → (∃ o, h'.get? e = some o ∧ o.cls = .type "StopIteration") → E (.ref e) { s₁.setGen g .finished with heap := h' }) :
    wpAny (model P w) A (Builtin.SmallTypes.nextOf (.ref a)) Q E s := by
  unfold Builtin.SmallTypes.nextOf
  refine wpAny_bind (wpAny_callSpecial?_slot (name := Str.ofString "__next__") hg.typeIs slot_gen_next (wpAny_call_entry slot_gen_next hg.typeIs entry_gen_next ?_ (args_gen_next _)))
  show wpAny _ A.in1 (Builtin.Generator.genWake (.ref a) (.send .none)) _ _ s
  unfold Builtin.Generator.genWake
  refine wpAny_bind (wpAny_holding (wpAny_genNumber hg (wpAny_bind (wpAny_genState hgs ?_))))
  cases gs with
  | running => exact hgo.elim
  | finished => exact hgo.elim
  | _ =>
    refine wpAny_bind (wpAny_roomToWake hl hroom ?_)
    show wpAny _ A.in1 (.resume g (.send .none) [] _) _ _ s
    refine wpAny_resumeQ hgs hgo (fun x s₁ hx => ?_) (fun v s₁ gs' hb hv => ?_)
    · obtain ⟨hr, fin⟩ := hR x s₁ hx
      have hres : End.result (.ret x) = .returned .none := by
        rcases hr with hr | hr <;> rw [hr] <;> rfl
      first | rw [hres] | simp only [hres]
      show wpAny _ A.in1 (newExc (.type "StopIteration") [] >>= _) _ _ _
      refine wpAny_bind ?_
      simp only [newExc, newTuple]
      refine wpAny_bind (wpAny_newObj_type ?_ (by size_fits))
      refine wpAny_bind (m := firstArgMember _ _) (wpAny_of_eq (a := Value.none) (by first | rfl | (simp only [firstArgMember]; rfl)) ?_)
      refine wpAny_newObj_type ?_ (by size_fits)
      simp only [raiseNew]
      refine wpAny_bind (wpAny_bind (wpAny_handled ?_))
      first | rw [show A.in1.handled = none from hh] | rw [hh]
      refine wpAny_throw ?_
      exact fin _ _ (fun b o hb => Heap.get?_push_of_some _ (Heap.get?_push_of_some _ hb)) ⟨_, Heap.get?_push_size _ rfl, rfl⟩
    · exact wpAny_pure ⟨v, rfl, wpAny_pure (hY v s₁ gs' hb hv)⟩
/-- zip's turn, whatever its two iterators are -/
theorem zip_turn {z TI TO i1 i2 : Addr} {a b : Value} {Q : Value → Shared → Prop} (zTO : z ≠ TO) (hz : IsZip s.heap z TI TO .none) (hTI : IsPair s.heap TI (.ref i1) (.ref i2))
    (first : ∀ h₁, IsZip h₁ z TI TO .ellipsis → Heap.SameBut z s.heap h₁ → wpAny (model P w) A (Builtin.SmallTypes.nextOf (.ref i1)) (fun x s₂ => IsZip s₂.heap z TI TO .ellipsis ∧ IsPair s₂.heap TO a b ∧ ∀ h₃, Heap.SameBut TO s₂.heap h₃ → IsPair h₃ TO x b →
        wpAny (model P w) A (Builtin.SmallTypes.nextOf (.ref i2)) (fun y s₄ => IsZip s₄.heap z TI TO .ellipsis ∧ IsPair s₄.heap TO x b ∧ ∀ h', IsZip h' z TI TO (rawInt s₄.heap.objs.size) → IsPair h' TO x y → IsPair h' s₄.heap.objs.size x y → (∀ c o, c ≠ z → c ≠ TO → s₄.heap.get? c = some o → h'.get? c = some o) → Q (.ref s₄.heap.objs.size) { s₄ with heap := h' })
          (fun e s₄ => IsZip s₄.heap z TI TO .ellipsis ∧ ∀ h, Heap.SameBut z s₄.heap h → E e { s₄ with heap := h }) { s₂ with heap := h₃ })
      (fun e s₂ => IsZip s₂.heap z TI TO .ellipsis ∧ ∀ h, Heap.SameBut z s₂.heap h → E e { s₂ with heap := h }) { s with heap := h₁ }) :
    wpAny (model P w) A (Builtin.«zip.__next__» ⟨[.ref z], []⟩) (fun fin s' => ∃ v, fin = .done (.ret v) ∧ Q v s') E s := by
  show wpAny _ _ (field (.ref z) 2 >>= _) _ _ _
  refine wpAny_bind (wpAny_field hz rfl (x := .bool false) rfl ?_)
  show wpAny _ _ (field (.ref z) 3 >>= _) _ _ _
  refine wpAny_bind (wpAny_field hz rfl (x := .ref TI) rfl ?_)
  refine wpAny_bind (wpAny_seqItems hTI rfl ?_)
  show wpAny _ _ (Builtin.SmallTypes.ownedTupleIsFree (.ref z) >>= _) _ _ _
  refine wpAny_bind ?_
  unfold Builtin.SmallTypes.ownedTupleIsFree
  refine wpAny_bind (wpAny_field hz rfl (x := .none) rfl (wpAny_pure ?_))
  simp only [if_true]
  refine wpAny_bind (wpAny_rule ?_)
  refine wpAny_bind (wpAny_field hz rfl (x := .ref TO) rfl ?_)
  refine wpAny_bind (wpAny_setField_rec hz (by simp) fun h₁ hz₁ hs₁ => ?_)
  replace hz₁ : IsZip h₁ z TI TO .ellipsis := hz₁
  refine wpAny_bind ?_
  simp only [List.zipIdx_cons, List.zipIdx_nil, List.forIn_cons, List.forIn_nil]
  refine wpAny_bind (wpAny_bind (wpAny_onRaise ?_))
  show wpAny _ _ (Builtin.SmallTypes.nextOf (.ref i1) >>= _) _ _ _
  have raised : ∀ (e : Value) (s₂ : Shared), (IsZip s₂.heap z TI TO .ellipsis ∧ ∀ h, Heap.SameBut z s₂.heap h → E e { s₂ with heap := h }) → wpAny (model P w) A (setField (.ref z) 0 .none) (fun _ s' => E e s') E s₂ := fun e s₂ h => by
    obtain ⟨h1, h2⟩ := h
    exact wpAny_setField_rec h1 (by simp) fun h₃ _ hs₃ => h2 h₃ hs₃
  refine wpAny_bind (wpAny_mono (first h₁ hz₁ hs₁) (fun x s₂ hh => wpAny_pure ?_) fun e s₂ hh => ?_)
  · obtain ⟨hz₂, hTO₂, second⟩ := hh
    refine wpAny_bind (wpAny_seqItems hTO₂ rfl ?_)
    refine wpAny_bind (wpAny_updateSeq_pair hTO₂ fun h₃ hTO₃ hs₃ => ?_)
    replace hTO₃ : IsPair h₃ TO x b := hTO₃
    refine wpAny_bind (wpAny_letGo (wpAny_pure ?_))
    refine wpAny_bind (wpAny_bind (wpAny_onRaise ?_))
    show wpAny _ _ (Builtin.SmallTypes.nextOf (.ref i2) >>= _) _ _ _
    refine wpAny_bind (wpAny_mono (second h₃ hs₃ hTO₃) (fun y s₄ hh => wpAny_pure ?_) fun e s₄ hh => ?_)
    · obtain ⟨hz₄, hTO₄, fin⟩ := hh
      refine wpAny_bind (wpAny_seqItems hTO₄ rfl ?_)
      refine wpAny_bind (wpAny_updateSeq_pair hTO₄ fun h₅ hTO₅ hs₅ => ?_)
      replace hTO₅ : IsPair h₅ TO x y := hTO₅
      refine wpAny_bind (wpAny_letGo (wpAny_pure (wpAny_pure ?_)))
      refine wpAny_bind (wpAny_seqItems hTO₅ rfl ?_)
      refine wpAny_bind (wpAny_newTuple ?_)
      have hsz : h₅.objs.size = s₄.heap.objs.size := hs₅.1
      have hz₅ : IsZip h₅ z TI TO .ellipsis := hs₅.extBut _ _ zTO hz₄
      have hzlt : z < h₅.objs.size := Heap.lt_size hz₅
      show wpAny _ _ (Builtin.SmallTypes.ownedTupleHandOut (.ref z) (.ref h₅.objs.size) >>= _) _ _ _
      refine wpAny_bind ?_
      unfold Builtin.SmallTypes.ownedTupleHandOut
      have hz₆ : IsZip (h₅.push { cls := .type "tuple", data := .seq #[x, y] }) z TI TO .ellipsis := Heap.get?_push_of_some _ hz₅
      refine wpAny_bind (wpAny_setField_rec hz₆ (by simp) fun h₇ hz₇ hs₇ => ?_)
      replace hz₇ : IsZip h₇ z TI TO (rawInt h₅.objs.size) := hz₇
      refine wpAny_setField_rec hz₇ (by simp) fun h₈ hz₈ hs₈ => ?_
      replace hz₈ : IsZip h₈ z TI TO (rawInt h₅.objs.size) := hz₈
      have up : ∀ c o, c ≠ z → h₅.get? c = some o → h₈.get? c = some o := fun c o c1 e => hs₈.extBut _ _ c1 (hs₇.extBut _ _ c1 (Heap.get?_push_of_some _ e))
      have hT₈ : IsPair h₈ h₅.objs.size x y := hs₈.extBut _ _ (Nat.ne_of_gt hzlt) (hs₇.extBut _ _ (Nat.ne_of_gt hzlt) (Heap.get?_push_size _ rfl))
      have hTO₈ : IsPair h₈ TO x y := up _ _ (Ne.symm zTO) hTO₅
      rw [hsz] at hz₈ hT₈
      refine wpAny_pure ⟨_, rfl, ?_⟩
      show Q (.ref h₅.objs.size) _
      rw [hsz]
      exact fin h₈ hz₈ hTO₈ hT₈ fun c o c1 c2 e => up c o c1 (hs₅.extBut _ _ c2 e)
    · exact raised e s₄ hh
  · exact raised e s₂ hh
/-- its end -/
def EZ (Q : Option Value → Shared → Prop) (e : Value) (s' : Shared) : Prop := ∃ (b : Addr) (o : Obj), e = .ref b ∧ s'.heap.get? b = some o ∧ o.cls = .type "StopIteration" ∧ Q none s'
/-- next of it -/
theorem next_zip {z TI TO i1 i2 : Addr} {a b : Value} {Q : Option Value → Shared → Prop} (zTO : z ≠ TO) (hz : IsZip s.heap z TI TO .none) (hTI : IsPair s.heap TI (.ref i1) (.ref i2))
    (first : ∀ h₁, IsZip h₁ z TI TO .ellipsis → Heap.SameBut z s.heap h₁ → wpAny (model P w) A.in1 (Builtin.SmallTypes.nextOf (.ref i1)) (fun x s₂ => IsZip s₂.heap z TI TO .ellipsis ∧ IsPair s₂.heap TO a b ∧ ∀ h₃, Heap.SameBut TO s₂.heap h₃ → IsPair h₃ TO x b →
        wpAny (model P w) A.in1 (Builtin.SmallTypes.nextOf (.ref i2)) (fun y s₄ => IsZip s₄.heap z TI TO .ellipsis ∧ IsPair s₄.heap TO x b ∧ ∀ h', IsZip h' z TI TO (rawInt s₄.heap.objs.size) → IsPair h' TO x y → IsPair h' s₄.heap.objs.size x y → (∀ c o, c ≠ z → c ≠ TO → s₄.heap.get? c = some o → h'.get? c = some o) → Q (some (.ref s₄.heap.objs.size)) { s₄ with heap := h' })
          (fun e s₄ => IsZip s₄.heap z TI TO .ellipsis ∧ ∀ h, Heap.SameBut z s₄.heap h → EZ Q e { s₄ with heap := h }) { s₂ with heap := h₃ })
      (fun e s₂ => IsZip s₂.heap z TI TO .ellipsis ∧ ∀ h, Heap.SameBut z s₂.heap h → EZ Q e { s₂ with heap := h }) { s with heap := h₁ }) :
    wpAny (model P w) A (pyNext (.ref z)) Q E s := by
  have hT : s.TypeIs (.ref z) "zip" := ⟨_, hz, rfl⟩
  unfold pyNext
  have inner := zip_turn (A := A.in1) (E := EZ Q) (Q := fun v s' => Q (some v) s') zTO hz hTI first
  refine wpAny_bind (wpAny_attempt (wpAny_callSpecial?_slot (name := Str.ofString "__next__") hT F.slot_zip_next
    (wpAny_call_entry F.slot_zip_next hT F.entry_zip_next (wpAny_mono inner (fun fin s' hh => ?_) fun e s' hh => ?_) (F.args_zip_next_1 _))))
  · obtain ⟨v, rfl, q⟩ := hh
    exact ⟨v, rfl, wpAny_pure q⟩
  · obtain ⟨b', o, rfl, ho, hc, q⟩ := hh
    refine wpAny_bind (wpAny_isInstance (T := "StopIteration") (b := true) ⟨o, ho, hc⟩ isSubtype_stop ?_)
    exact wpAny_pure q
end
end Sq
set_option Elab.async false
set_option linter.all false
set_option maxRecDepth 100000
set_option maxHeartbeats 2000000
namespace Sq
open PySem PySem.Spec PyProof.Rows L2 GenW
/-- what a turn of the generator leaves -/
structure Kept (G : Xg) (s s' : Shared) : Prop where
  os : s'.os = s.os
  gens : ∀ k, k ≠ G.g → s'.gens[k]? = s.gens[k]?
  bare : AllBare s'.gens
  keep : ∀ b o, s.heap.get? b = some o → b ∉ frs G.outer → ¬ Mine s.heap G.reg G.a G.al b → b ≠ G.al → s'.heap.get? b = some o
  slot : ∀ b o, s.heap.get? b = some o → b ∈ frs G.outer → ∃ sl, s'.heap.get? b = some { o with slots := sl }
  lst : HOk G.P G.w (alH G.al G.ns) s'.heap
  there : ∀ b, G.reg b → ∃ o, s'.heap.get? b = some o ∧ FrO o
/-- it waits at its n-th item from the end -/
structure Asleep (G : Xg) (n : Nat) (s : Shared) : Prop where
  gen : s.heap.IsGen G.a G.g
  st : ∃ gs, s.gens[G.g]? = some gs ∧ ∀ s2, G.E0 s2 → (∀ b o, (b = G.a ∨ Mine s.heap G.reg G.a G.al b) → s.heap.get? b = some o → s2.heap.get? b = some o) → gs.Goes G.md G.A G.R G.Y n (.send .none) s2
section
variable {G : Xg} {n : Nat} {s s' s₁ : Shared}
theorem Asleep.keep (a : Asleep G n s) (hg : s'.gens[G.g]? = s.gens[G.g]?) (k : ∀ b o, (b = G.a ∨ Mine s.heap G.reg G.a G.al b) → s.heap.get? b = some o → s'.heap.get? b = some o) : Asleep G n s' := by
  obtain ⟨⟨o, nm, qn, ho, r⟩, gs, h1, h2⟩ := a
  refine ⟨⟨o, nm, qn, k _ _ (.inl rfl) ho, r⟩, gs, hg.trans h1, fun s2 e own => h2 s2 e fun b o m q => own b o ?_ (k b o m q)⟩
  rcases m with m | m | ⟨m1, j, oi, ei, ri⟩
  · exact .inl m
  · exact .inr (.inl m)
  · exact .inr (.inr ⟨m1, j, oi, k _ _ (.inr (.inr ⟨m1, j, oi, ei, ri⟩)) ei, ri⟩)
theorem funs_slots {h h' base : Heap} : ∀ {l : List Env}, h.FunFrames base l → (∀ b o, h.get? b = some o → b ∈ frs l → ∃ sl, h'.get? b = some { o with slots := sl }) → h'.FunFrames base l
  | [], _, _ => trivial
  | env :: l, q, k => by
    obtain ⟨hk, ⟨L, o, hf, hn, ho, hd⟩, hr⟩ := q
    have eL : frs (env :: l) = L :: frs l := by
      unfold frs
      rw [List.filterMap_cons, hf]
    rw [eL] at k
    obtain ⟨sl, e⟩ := k L o ho List.mem_cons_self
    exact ⟨hk, ⟨L, _, hf, hn, e, hd⟩, funs_slots hr fun b o e hb => k b o e (List.mem_cons_of_mem _ hb)⟩
theorem base_no {h base : Heap} : ∀ {l : List Env}, h.FunFrames base l → ∀ b o, base.get? b = some o → b ∉ frs l
  | [], _, b, o, e => List.not_mem_nil
  | env :: l, q, b, o, e => by
    obtain ⟨hk, ⟨L, o', hf, hn, ho, hd⟩, hr⟩ := q
    have eL : frs (env :: l) = L :: frs l := by
      unfold frs
      rw [List.filterMap_cons, hf]
    rw [eL]
    intro m
    rcases List.mem_cons.mp m with z | z
    · rw [z, hn] at e
      cases e
    · exact base_no hr b o e z
theorem e0_kept (ok : G.Ok) (e : G.E0 s) (k : Kept G s s') : G.E0 s' := by
  refine ⟨e.frames, e.mod, fun b o q => ?_, ?_, funs_slots e.funs k.slot, e.frf, k.lst, k.bare⟩
  · obtain ⟨h1, h2⟩ := e.bs b o q
    have lt : b < G.n0 := Nat.lt_of_lt_of_le (Heap.lt_size q) ok.bsz
    refine ⟨k.keep b o h1 (base_no e.funs b o q) (fun m => ?_) (fun z => ?_), h2⟩
    · rcases m with m | ⟨m, _⟩
      · exact absurd lt (Nat.not_lt_of_le (ok.rlt m).1)
      · exact absurd (Nat.lt_trans lt (Nat.lt_trans ok.na m)) (Nat.lt_irrefl _)
    · rw [z, alH_at] at h2
      cases h2
  · obtain ⟨o, q, _⟩ := k.there _ (.inl rfl)
    exact Nat.le_trans ok.bsz (Nat.le_of_lt (Heap.lt_size q))
theorem e0_heap (e : G.E0 s) (h1 : s'.heap = s.heap) (h2 : AllBare s'.gens) : G.E0 s' := by
  refine ⟨e.frames, e.mod, ?_, ?_, ?_, e.frf, ?_, h2⟩
  · rw [h1]; exact e.bs
  · rw [h1]; exact e.bsz
  · rw [h1]; exact e.funs
  · rw [h1]; exact e.hok
theorem setGen_ne {s : Shared} {g k : Nat} {x : GenState} (h : k ≠ g) : (s.setGen g x).gens[k]? = s.gens[k]? := by
  show (s.gens.setIfInBounds g x)[k]? = _
  rw [Array.getElem?_setIfInBounds_ne (Ne.symm h)]
theorem kept_of (k : KeepX G (s.setGen G.g .running) s₁) {x : GenState} (hx : x.bare = true) : Kept G s (s₁.setGen G.g x) :=
  ⟨k.os, fun j hj => by rw [setGen_ne hj, k.gens, setGen_ne hj], allBare_setGen k.bare hx, k.keep, k.slot, k.lst, k.there⟩
/-- its next item, or its end -/
theorem wake_turn {A : Around} (ok : G.Ok) (as : Asleep G n s) (e : G.E0 s) (eA : G.A = A.in1) (hh : A.handled = none) (hroom : A.depth < recursionLimit) :
    wpAny (model G.P G.w) A (Builtin.SmallTypes.nextOf (.ref G.a)) (fun v s' => ∃ m i, n = m + 1 ∧ n + i = G.tot ∧ (∃ t, v = .int (G.val i) t) ∧ Kept G s s' ∧ Asleep G m s')
      (fun x s' => n = 0 ∧ ∃ b o, x = .ref b ∧ s'.heap.get? b = some o ∧ o.cls = .type "StopIteration" ∧ Kept G s s') s := by
  obtain ⟨isG, gs, hgs, goes⟩ := as
  have lim : s.heap.NoLimit := e.mod.nolimit.keeps fun b o q => (e.bs b o q).1
  have hgl : G.g < s.gens.size := (Array.getElem?_eq_some_iff.mp hgs).1
  have e2 : G.E0 (s.setGen G.g .running) := e0_heap e rfl (allBare_setGen e.bare rfl)
  have go := goes (s.setGen G.g .running) e2 fun b o m q => q
  rw [eA] at go
  refine nextOf_gen hh lim hroom isG hgs go (fun v s₁ gs' hb hv => ?_) fun r s₁ hr => ?_
  · obtain ⟨i, hi, ht, k, back⟩ := hv
    have kt := kept_of k hb
    have e3 := e0_kept ok e kt
    have sz : G.g < s₁.gens.size := by
      rw [k.gens]
      show G.g < (s.setGen G.g .running).gens.size
      rw [setGen_size]
      exact hgl
    cases n with
    | zero => exact (back (s₁.setGen G.g gs') e3 fun b o m q => q).elim
    | succ m =>
      refine ⟨m, i, rfl, by omega, ht, kt, ?_, gs', setGen_at sz, fun s2 e4 own => ?_⟩
      · obtain ⟨o, nm, qn, ho, r⟩ := isG
        have nm' : ¬ Mine s.heap G.reg G.a G.al G.a := fun z => by
          rcases z with z | ⟨_, j, oi, ei, ci, di⟩
          · exact absurd (ok.rlt z).2 (Nat.lt_irrefl _)
          · rw [ho] at ei
            cases ei
            rw [r.1] at ci
            exact absurd ci (by decide)
        refine ⟨o, nm, qn, kt.keep G.a o ho (fun z => absurd (Nat.lt_trans (ok.low _ z) ok.na) (Nat.lt_irrefl _)) nm' (fun z => ok.alne.2 z.symm), r⟩
      · have b2 := back s2 e4 own
        rw [eA]
        exact b2
  · obtain ⟨h1, rfl, k⟩ := hr
    refine ⟨h1, fun h' b kk hs => ?_⟩
    obtain ⟨o, ho, hc⟩ := hs
    have kt := kept_of k (x := .finished) rfl
    refine ⟨rfl, b, o, rfl, ho, hc, kt.os, kt.gens, kt.bare, fun c u q h1 h2 h3 => kk _ _ (kt.keep c u q h1 h2 h3), fun c u q h => ?_, kt.lst.kept kk, ?_⟩
    · obtain ⟨sl, z⟩ := kt.slot c u q h
      exact ⟨sl, kk _ _ z⟩
    · intro b m
      obtain ⟨o', z, d⟩ := kt.there b m
      exact ⟨o', kk _ _ z, d⟩
/-- a consumer that owns nothing of it -/
theorem inv_kept {X : Cx} {pins : List (Addr × Obj)} {σ : L2.St} {H : Hp} (I : Inv X pins σ H s) (ok : G.Ok) (ab : Above X pins G.n0) (eo : G.outer = X.stack) (eP : G.P = X.prog) (ew : G.w = X.w) (k : Kept G s s') (hal : H G.al = some (.lst (G.ns.map V.int))) (free : ∀ b, Mine s.heap G.reg G.a G.al b → H b = none) : Inv X pins σ H s' := by
  have low : ∀ {b : Addr} {o : Obj}, s.heap.get? b = some o → b ∉ (List.range s.heap.objs.size).filter (fun b => decide (G.n0 ≤ b)) → b < G.n0 := fun {b o} e nm => by
    by_cases lt : b < G.n0
    · exact lt
    · exact absurd (List.mem_filter.mpr ⟨List.mem_range.mpr (Heap.lt_size e), decide_eq_true (Nat.le_of_not_lt lt)⟩) nm
  have nm : ∀ {b : Addr}, b < G.n0 → ¬ Mine s.heap G.reg G.a G.al b := fun {b} lt m => by
    rcases m with m | ⟨m, _⟩
    · exact absurd lt (Nat.not_lt_of_le (ok.rlt m).1)
    · exact absurd (Nat.lt_trans lt (Nat.lt_trans ok.na m)) (Nat.lt_irrefl _)
  have alNone : ∀ {b : Addr}, H b = none → b ≠ G.al := fun {b} e z => by
    rw [z, hal] at e
    cases e
  have kf : ∀ b o, s.heap.get? b = some o → b ∉ frs X.stack → ¬ Mine s.heap G.reg G.a G.al b → b ≠ G.al → s'.heap.get? b = some o := by
    rw [← eo]
    exact k.keep
  refine I.call' (ch := (List.range s.heap.objs.size).filter fun b => decide (G.n0 ≤ b)) k.os ⟨fun b o e n nf hx => ?_, fun b o e n hf hx => ?_, fun b o e n hx => n, fun b o e hx => ?_, fun b xs e => e, fun b o u e => e, fun b ps e => ⟨#[], by rw [e]; simp⟩⟩ ?_ k.bare fun b hb => ?_
  · exact kf b o e nf (nm (low e hx)) (alNone n)
  · rw [← eo] at hf
    exact k.slot b o e hf
  · by_cases ha : b = G.al
    · subst ha
      obtain ⟨_, its, _, _, hl⟩ := k.lst G.al _ alH_at
      exact ⟨_, hl⟩
    · by_cases hf : b ∈ frs X.stack
      · rw [← eo] at hf
        obtain ⟨sl, z⟩ := k.slot b o e hf
        exact ⟨_, z⟩
      · exact ⟨o, kf b o e hf (nm (low e hx)) ha⟩
  · intro b u e
    by_cases ha : b = G.al
    · subst ha
      rw [hal] at e
      cases e
      obtain ⟨z, its, m, r, eo'⟩ := k.lst G.al _ alH_at
      exact ⟨z, its, m, r, eo'⟩
    · refine (I.hok b u e).stay (fun c w' hc q => ?_) (fun _ q => q) fun _ _ q => q
      have nf : c ∉ frs X.stack := fun hf => by
        have z := I.stkFree c hf
        rcases hc with hc | hc
        · rw [hc, e] at z
          cases z
        · rw [hc] at z
          cases z
      refine kf c w' q nf (fun m => ?_) fun z => ?_
      · have z := free c m
        rcases hc with hc | hc
        · rw [hc, e] at z
          cases z
        · rw [hc] at z
          cases z
      · rcases hc with hc | hc
        · exact ha (hc ▸ z)
        · rw [z, hal] at hc
          cases hc
  · have le : G.n0 ≤ b := of_decide_eq_true (List.mem_filter.mp hb).2
    refine ⟨.inr (Nat.le_trans ab.young le), Nat.ne_of_gt (Nat.lt_of_lt_of_le ab.loc le), fun x c e z => ?_, fun p hp z => ?_⟩
    · exact absurd z (Nat.ne_of_lt (Nat.lt_of_lt_of_le (ab.cell x c e) le))
    · exact absurd z (Nat.ne_of_lt (Nat.lt_of_lt_of_le (ab.pin p hp) le))
end
end Sq
set_option Elab.async false
set_option linter.all false
set_option maxRecDepth 100000
set_option maxHeartbeats 2000000
/-! The first waking. -/
namespace Sq
open PySem PySem.Spec PyProof.Rows L2 GenW
section
variable {P : Program} {w : World} {A : Around} {E : Value → Shared → Prop} {s : Shared}
theorem nextOf_genT {a : Addr} {g : Nat} {code : Code} {Φ : End → Shared → Prop} {Q : Value → Shared → Prop} (hh : A.handled = none) (hl : s.heap.NoLimit) (hroom : A.depth < recursionLimit) (hg : s.heap.IsGen a g) (hgs : s.gens[g]? = some (.fresh code))
    (hgo : SegT (model P w) A.in1 Φ code ((model P w).den code) [] (s.setGen g .running)) (quiet : ∀ e s', Φ e s' → e.quiet = true)
    (hY : ∀ v g₀ l₀ k₀ c₀ p₀ fs₀ s₁, Φ (.susp v g₀ l₀ k₀ c₀ p₀ fs₀) s₁ → Q v (s₁.setGen g (End.susp v g₀ l₀ k₀ c₀ p₀ fs₀).genState))
    (hR : ∀ r s₁, Φ (.ret r) s₁ → (r = .ok (.ret .none) ∨ r = .ok .next) ∧ ∀ h' e, (∀ b o, s₁.heap.get? b = some o → h'.get? b = some o) → (∃ o, h'.get? e = some o ∧ o.cls = .type "StopIteration") → E (.ref e) { s₁.setGen g .finished with heap := h' }) :
    wpAny (model P w) A (Builtin.SmallTypes.nextOf (.ref a)) Q E s := by
  unfold Builtin.SmallTypes.nextOf
  refine wpAny_bind (wpAny_callSpecial?_slot (name := Str.ofString "__next__") hg.typeIs slot_gen_next (wpAny_call_entry slot_gen_next hg.typeIs entry_gen_next ?_ (args_gen_next _)))
  show wpAny _ A.in1 (Builtin.Generator.genWake (.ref a) (.send .none)) _ _ s
  unfold Builtin.Generator.genWake
  refine wpAny_bind (wpAny_holding (wpAny_genNumber hg (wpAny_bind (wpAny_genState hgs ?_))))
  refine wpAny_bind (wpAny_roomToWake hl hroom ?_)
  show wpAny _ A.in1 (.resume g (.send .none) [] _) _ _ s
  refine wpAny_resumeT hgs rfl hgo quiet fun e₁ s₁ he => ?_
  cases e₁ with
  | ret x =>
    obtain ⟨hr, fin⟩ := hR x s₁ he
    have hres : End.result (.ret x) = .returned .none := by
      rcases hr with hr | hr <;> rw [hr] <;> rfl
    first | rw [hres] | simp only [hres]
    show wpAny _ A.in1 (newExc (.type "StopIteration") [] >>= _) _ _ _
    refine wpAny_bind ?_
    simp only [newExc, newTuple]
    refine wpAny_bind (wpAny_newObj_type ?_ (by size_fits))
    refine wpAny_bind (m := firstArgMember _ _) (wpAny_of_eq (a := Value.none) (by first | rfl | (simp only [firstArgMember]; rfl)) ?_)
    refine wpAny_newObj_type ?_ (by size_fits)
    simp only [raiseNew]
    refine wpAny_bind (wpAny_bind (wpAny_handled ?_))
    first | rw [show A.in1.handled = none from hh] | rw [hh]
    refine wpAny_throw ?_
    exact fin _ _ (fun b o hb => Heap.get?_push_of_some _ (Heap.get?_push_of_some _ hb)) ⟨_, Heap.get?_push_size _ rfl, rfl⟩
  | susp v g₀ l₀ k₀ c₀ p₀ fs₀ => exact wpAny_pure ⟨v, rfl, wpAny_pure (hY v g₀ l₀ k₀ c₀ p₀ fs₀ s₁ he)⟩
end
/-- it has not begun -/
structure Dozing (G : Vg) (ns : List Int) (tot : Nat) (val : Nat → Int) (s : Shared) : Prop where
  gen : s.heap.IsGen G.a G.g
  st : ∃ code, s.gens[G.g]? = some (.fresh code) ∧ ∀ s2, G.E0 s2 → (∀ b o, (b = G.a ∨ G.reg b) → s.heap.get? b = some o → s2.heap.get? b = some o) → SegT G.md G.A (G.Φ ns tot val s2) code (G.md.den code) [] s2
/-- what the first turn leaves -/
structure Kept1 (G : Vg) (al : Addr) (ns : List Int) (s s' : Shared) : Prop where
  os : s'.os = s.os
  gens : ∀ k, k ≠ G.g → s'.gens[k]? = s.gens[k]?
  bare : AllBare s'.gens
  keep : ∀ b o, s.heap.get? b = some o → b ∉ frs G.outer → ¬ Mine s.heap G.reg G.a al b → G.W b = none → s'.heap.get? b = some o
  slot : ∀ b o, s.heap.get? b = some o → b ∈ frs G.outer → ∃ sl, s'.heap.get? b = some { o with slots := sl }
  lst : HOk G.P G.w (alH al ns) s'.heap
  hokW : HOk G.P G.w G.W s'.heap
  there : ∀ b, G.reg b → ∃ o, s'.heap.get? b = some o ∧ FrO o
  new : s.heap.get? al = none
section
variable {G : Vg} {ns : List Int} {tot : Nat} {val : Nat → Int} {s s' s₁ : Shared} {al : Addr}
theorem Dozing.keep (a : Dozing G ns tot val s) (hg : s'.gens[G.g]? = s.gens[G.g]?) (k : ∀ b o, (b = G.a ∨ G.reg b) → s.heap.get? b = some o → s'.heap.get? b = some o) : Dozing G ns tot val s' := by
  obtain ⟨⟨o, nm, qn, ho, r⟩, code, h1, h2⟩ := a
  exact ⟨⟨o, nm, qn, k _ _ (.inl rfl) ho, r⟩, code, hg.trans h1, fun s2 e own => h2 s2 e fun b o m q => own b o m (k b o m q)⟩
theorem kept1_of (ok : G.Ok) (e : G.E0 s) (kv : KeptV G (s.setGen G.g .running) s₁) (new : s.heap.get? al = none) (k : KeepX (G.x al ns tot val) s₁ s') {y : GenState} (hy : y.bare = true) : Kept1 G al ns s (s'.setGen G.g y) := by
  have nmine : ∀ b o, s.heap.get? b = some o → ¬ Mine s.heap G.reg G.a al b → s₁.heap.get? b = some o → ¬ Mine s₁.heap G.reg G.a al b := fun b o q nm q1 m => nm (by
    rcases m with m | ⟨lt, j, o', e', r⟩
    · exact .inl m
    · rw [q1] at e'
      cases e'
      exact .inr ⟨lt, j, o, q, r⟩)
  refine ⟨k.os.trans kv.os, fun j hj => by rw [setGen_ne hj, k.gens, kv.gens, setGen_ne hj], allBare_setGen k.bare hy, fun b o q nf nm nw => ?_, fun b o q hf => ?_, k.lst, fun b u q => ?_, k.there, new⟩
  · have q1 := kv.keep b o q nf (fun z => nm (.inl z)) nw
    exact k.keep b o q1 nf (nmine b o q nm q1) fun z => by
      rw [z, new] at q
      cases q
  · obtain ⟨sl, q1⟩ := kv.slot b o q hf
    obtain ⟨sl2, q2⟩ := k.slot b _ q1 hf
    exact ⟨sl2, q2⟩
  · have lb : b < G.n0 := ok.wlow b u q
    have x := kv.hokW b u q
    obtain ⟨o0, e0'⟩ : ∃ o, s.heap.get? b = some o := by
      have x0 := e.hok b u q
      rcases ok.wkind b u q with ⟨φ, rfl⟩ | ⟨xs, rfl⟩
      · exact x0.2.1
      · obtain ⟨_, its, m, _, eo⟩ := x0
        exact ⟨_, eo⟩
    refine x.stay (fun c o hc qc => ?_) (fun c z => z) fun c xs z => z
    have cb : c = b := by
      rcases hc with hc | hc
      · exact hc
      · rcases ok.wkind c _ hc with ⟨φ, z⟩ | ⟨xs, z⟩ <;> cases z
    subst cb
    refine k.keep c o qc (fun m => ?_) (fun m => ?_) fun z => ?_
    · have := e.frf c m
      rw [q] at this
      cases this
    · rcases m with m | ⟨m, _⟩
      · exact absurd lb (Nat.not_lt_of_le (ok.rlt m).1)
      · exact absurd (Nat.lt_trans lb (Nat.lt_trans ok.na m)) (Nat.lt_irrefl _)
    · rw [z, new] at e0'
      cases e0'
theorem segEnd_susp {R : GenEnd} {Y : Protocol} {n : Nat} {M : Model} {A : Around} {s₀ s' : Shared} {v : Value} {g l k c p fs} (h : SegEnd R Y n (Seg.next M A R Y n) s₀ (.susp v g l k c p fs) s') : Y (n - 1) s₀ v s' fun r' s'' => match n with | 0 => False | m + 1 => (End.susp v g l k c p fs).genState.Goes M A R Y m r' s'' := by
  cases n with
  | zero => exact h.2
  | succ m => exact h.2
theorem e0x_of {s₂ : Shared} (ok : G.Ok) (e : G.E0 s) (okx : (G.x al ns tot val).Ok) (e0x : (G.x al ns tot val).E0 s₂) (kt : Kept1 G al ns s s') : (G.x al ns tot val).E0 s' := by
  refine ⟨e0x.frames, e0x.mod, fun b o q => ?_, ?_, funs_slots e.funs kt.slot, e0x.frf, kt.lst, kt.bare⟩
  · obtain ⟨h1, h2⟩ := e.bs b o q
    have lt : b < G.n0 := Nat.lt_of_lt_of_le (Heap.lt_size q) ok.bsz
    refine ⟨kt.keep b o h1 (base_no e.funs b o q) (fun m => ?_) h2, (e0x.bs b o q).2⟩
    rcases m with m | ⟨m, _⟩
    · exact absurd lt (Nat.not_lt_of_le (ok.rlt m).1)
    · exact absurd (Nat.lt_trans lt (Nat.lt_trans ok.na m)) (Nat.lt_irrefl _)
  · obtain ⟨o, q, _⟩ := kt.there _ (.inl rfl)
    exact Nat.le_trans ok.bsz (Nat.le_of_lt (Heap.lt_size q))
/-- the first item, or the end -/
theorem first_turn {A : Around} (ok : G.Ok) (dz : Dozing G ns tot val s) (e : G.E0 s) (eA : G.A = A.in1) (hh : A.handled = none) (hroom : A.depth < recursionLimit) :
    wpAny (model G.P G.w) A (Builtin.SmallTypes.nextOf (.ref G.a)) (fun v s' => ∃ al m i, tot = m + 1 ∧ tot + i = tot ∧ (∃ t, v = .int (val i) t) ∧ (G.x al ns tot val).Ok ∧ Kept1 G al ns s s' ∧ Asleep (G.x al ns tot val) m s')
      (fun x s' => tot = 0 ∧ ∃ b o al, x = .ref b ∧ s'.heap.get? b = some o ∧ o.cls = .type "StopIteration" ∧ Kept1 G al ns s s') s := by
  obtain ⟨isG, code, hgs, goes⟩ := dz
  have lim : s.heap.NoLimit := e.mod.nolimit.keeps fun b o q => (e.bs b o q).1
  have hgl : G.g < s.gens.size := (Array.getElem?_eq_some_iff.mp hgs).1
  have e2 : G.E0 (s.setGen G.g .running) := by
    refine ⟨e.frames, e.mod, e.bs, e.bsz, e.funs, e.frf, e.hok, allBare_setGen e.bare rfl⟩
  have go := goes (s.setGen G.g .running) e2 fun b o m q => q
  rw [eA] at go
  refine nextOf_genT hh lim hroom isG hgs go (fun en s1 h => ?_) (fun v g₀ l₀ k₀ c₀ p₀ fs₀ s1 h => ?_) fun r s1 h => ?_
  · obtain ⟨al, sm, kv, new, okx, e0x, he⟩ := h
    cases en with
    | ret x => rfl
    | susp v g₀ l₀ k₀ c₀ p₀ fs₀ => exact he.1
  · obtain ⟨al, sm, kv, new, okx, e0x, he⟩ := h
    have hb : (End.susp v g₀ l₀ k₀ c₀ p₀ fs₀).genState.bare = true := End.bare_of_quiet he.1
    obtain ⟨i, hi, ht, k, back⟩ := segEnd_susp he
    have kt := kept1_of ok e kv new k hb
    have sz : G.g < s1.gens.size := by
      rw [k.gens, kv.gens]
      show G.g < (s.setGen G.g .running).gens.size
      rw [setGen_size]
      exact hgl
    have e3 := e0x_of ok e okx e0x kt
    obtain ⟨m, hm⟩ : ∃ m, tot = m + 1 := by
      cases ht0 : tot with
      | zero =>
        subst ht0
        exact (back _ e3 fun b o m q => q).elim
      | succ m => exact ⟨m, rfl⟩
    subst hm
    have hi : m + 1 - 1 + 1 + i = m + 1 := hi
    have i0 : i = 0 := by omega
    subst i0
    refine ⟨al, m, 0, rfl, rfl, ht, okx, kt, ?_, _, setGen_at sz, fun s2 e4 own => ?_⟩
    · obtain ⟨o, nm, qn, ho, r⟩ := isG
      have nm' : ¬ Mine s.heap G.reg G.a al G.a := fun z => by
        rcases z with z | ⟨_, j, oi, ei, ci, di⟩
        · exact absurd (ok.rlt z).2 (Nat.lt_irrefl _)
        · rw [ho] at ei
          cases ei
          rw [r.1] at ci
          exact absurd ci (by decide)
      exact ⟨o, nm, qn, kt.keep G.a o ho (fun z => absurd (Nat.lt_trans (ok.low _ z) ok.na) (Nat.lt_irrefl _)) nm' ok.wa, r⟩
    · have b2 := back s2 e4 own
      exact b2
  · obtain ⟨al, sm, kv, new, okx, e0x, he⟩ := h
    obtain ⟨h1, n0, k⟩ := (show (G.x al ns tot val).R tot sm r s1 from he)
    refine ⟨h1, fun h' b kk hs => ?_⟩
    obtain ⟨o, ho, hc⟩ := hs
    have kt := kept1_of ok e kv new k (y := .finished) rfl
    refine ⟨n0, b, o, al, rfl, ho, hc, kt.os, kt.gens, kt.bare, fun c u q h1 h2 h3 => kk _ _ (kt.keep c u q h1 h2 h3), fun c u q h => ?_, kt.lst.kept kk, kt.hokW.kept kk, ?_, new⟩
    · obtain ⟨sl, z⟩ := kt.slot c u q h
      exact ⟨sl, kk _ _ z⟩
    · intro b m
      obtain ⟨o', z, d⟩ := kt.there b m
      exact ⟨o', kk _ _ z, d⟩
end
end Sq
set_option Elab.async false
set_option linter.all false
set_option maxRecDepth 100000
set_option maxHeartbeats 2000000
/-! A consumer behind the first turn of a generator that has made its list: the list is the consumer's row from now on. -/
namespace Sq
open PySem PySem.Spec PyProof.Rows L2 GenW
section
variable {G : Vg} {ns : List Int} {s s' : Shared} {al : Addr}
theorem inv_kept1 {X : Cx} {pins : List (Addr × Obj)} {σ : L2.St} {H : Hp} (I : Inv X pins σ H s) (ok : G.Ok) (ab : Above X pins G.n0) (eo : G.outer = X.stack) (eP : G.P = X.prog) (ew : G.w = X.w) (k : Kept1 G al ns s s') (hW : ∀ b u, G.W b = some u → H b = some u) (hal : H al = none) (free : ∀ b, Mine s.heap G.reg G.a al b → H b = none) :
    Inv X pins σ (upd H al (.lst (ns.map V.int))) s' := by
  have low : ∀ {b : Addr} {o : Obj}, s.heap.get? b = some o → b ∉ (List.range s.heap.objs.size).filter (fun b => decide (G.n0 ≤ b)) → b < G.n0 := fun {b o} e nm => by
    by_cases lt : b < G.n0
    · exact lt
    · exact absurd (List.mem_filter.mpr ⟨List.mem_range.mpr (Heap.lt_size e), decide_eq_true (Nat.le_of_not_lt lt)⟩) nm
  have nm : ∀ {b : Addr}, b < G.n0 → ¬ Mine s.heap G.reg G.a al b := fun {b} lt m => by
    rcases m with m | ⟨m, _⟩
    · exact absurd lt (Nat.not_lt_of_le (ok.rlt m).1)
    · exact absurd (Nat.lt_trans lt (Nat.lt_trans ok.na m)) (Nat.lt_irrefl _)
  have nal : ∀ {b : Addr} {o : Obj}, s.heap.get? b = some o → b ≠ al := fun {b o} e z => by
    rw [z, k.new] at e
    cases e
  have nalH : ∀ {b : Addr} {u : HO}, H b = some u → b ≠ al := fun {b u} e z => by
    rw [z, hal] at e
    cases e
  have nW : ∀ {b : Addr}, H b = none → G.W b = none := fun {b} e => by
    cases w : G.W b with
    | none => rfl
    | some u => rw [hW b u w] at e; cases e
  have kf : ∀ b o, s.heap.get? b = some o → b ∉ frs X.stack → ¬ Mine s.heap G.reg G.a al b → G.W b = none → s'.heap.get? b = some o := by
    rw [← eo]
    exact k.keep
  refine I.call' (ch := (List.range s.heap.objs.size).filter fun b => decide (G.n0 ≤ b)) k.os ⟨fun b o e n nf hx => kf b o e nf (nm (low e hx)) (nW n), fun b o e n hf hx => ?_, fun b o e n hx => by rw [upd_ne (nal e)]; exact n, fun b o e hx => ?_, fun b xs e => by rw [upd_ne (nalH e)]; exact e, fun b o u e => by rw [upd_ne (nalH e)]; exact e, fun b ps e => ⟨#[], by rw [upd_ne (nalH e), e]; simp⟩⟩ ?_ k.bare fun b hb => ?_
  · rw [← eo] at hf
    exact k.slot b o e hf
  · by_cases hf : b ∈ frs X.stack
    · rw [← eo] at hf
      obtain ⟨sl, z⟩ := k.slot b o e hf
      exact ⟨_, z⟩
    · cases w : G.W b with
      | none => exact ⟨o, kf b o e hf (nm (low e hx)) w⟩
      | some u =>
        have x0 := k.hokW b u w
        rcases ok.wkind b u w with ⟨φ, rfl⟩ | ⟨xs, rfl⟩
        · exact x0.2.1
        · obtain ⟨_, its, m, _, eo'⟩ := x0
          exact ⟨_, eo'⟩
  · intro b u e
    by_cases ha : b = al
    · subst ha
      rw [upd_same] at e
      cases e
      obtain ⟨z, its, m, r, eo'⟩ := k.lst b _ alH_at
      exact ⟨z, its, m, r, eo'⟩
    · rw [upd_ne ha] at e
      rw [← eP, ← ew]
      cases w : G.W b with
      | some u' =>
        have := hW b u' w
        rw [e] at this
        cases this
        refine (k.hokW b u w).stay (fun _ _ _ z => z) (fun c z => ?_) fun c xs z => ?_
        · rcases ok.wkind c _ z with ⟨φ, y⟩ | ⟨xs, y⟩ <;> cases y
        · rcases ok.wkind c _ z with ⟨φ, y⟩ | ⟨ys, y⟩ <;> cases y
      | none =>
        rw [eP, ew]
        refine (I.hok b u e).stay (fun c w' hc q => ?_) (fun c z => by rw [upd_ne (nalH z)]; exact z) fun c xs z => by rw [upd_ne (nalH z)]; exact z
        have nf : c ∉ frs X.stack := fun hf => by
          have z := I.stkFree c hf
          rcases hc with hc | hc
          · rw [hc, e] at z
            cases z
          · rw [hc] at z
            cases z
        refine kf c w' q nf (fun m => ?_) ?_
        · have z := free c m
          rcases hc with hc | hc
          · rw [hc, e] at z
            cases z
          · rw [hc] at z
            cases z
        · rcases hc with hc | hc
          · rw [hc]
            exact w
          · cases w2 : G.W c with
            | none => rfl
            | some u2 =>
              have z := hW c u2 w2
              rw [hc] at z
              cases z
              rcases ok.wkind c _ w2 with ⟨φ, y⟩ | ⟨xs, y⟩ <;> cases y
  · have le : G.n0 ≤ b := of_decide_eq_true (List.mem_filter.mp hb).2
    refine ⟨.inr (Nat.le_trans ab.young le), Nat.ne_of_gt (Nat.lt_of_lt_of_le ab.loc le), fun x c e z => ?_, fun p hp z => ?_⟩
    · exact absurd z (Nat.ne_of_lt (Nat.lt_of_lt_of_le (ab.cell x c e) le))
    · exact absurd z (Nat.ne_of_lt (Nat.lt_of_lt_of_le (ab.pin p hp) le))
end
end Sq
set_option Elab.async false
set_option linter.all false
set_option maxRecDepth 100000
set_option maxHeartbeats 2000000
/-! zip of two generators: the call. -/
namespace Sq
open PySem PySem.Spec PyProof.Rows L2 GenW
abbrev zgH1 (h : Heap) (a1 a2 : Addr) : Heap := h.push { cls := .type "tuple", data := .seq #[.ref a1, .ref a2] }
abbrev zgH2 (h : Heap) (a1 a2 : Addr) : Heap := (zgH1 h a1 a2).push { cls := .type "tuple", data := .seq #[.none, .none] }
abbrev zgH3 (h : Heap) (a1 a2 : Addr) : Heap := (zgH2 h a1 a2).push { cls := .type "zip", data := .fields #[.none, .bool false, .bool false, .ref h.objs.size, .ref (zgH1 h a1 a2).objs.size] }
theorem meets_zipG_new (a1 a2 : Addr) (g1 g2 : Nat) :
    Meets (Builtin.«zip.__new__» ⟨[.type "zip", .ref a1, .ref a2], []⟩) (fun _ R s => s.heap.IsGen a1 g1 ∧ s.heap.IsGen a2 g2 ∧
      R (.ok (.ret (.ref (zgH2 s.heap a1 a2).objs.size))) { s with heap := zgH3 s.heap a1 a2 }) :=
  .of_wp fun prog w A R s h => by
    obtain ⟨hp, g, d, tk, os⟩ := s; obtain ⟨hl1, hl2, h⟩ := h
    have hsub := sub_zip
    have hL1 : Heap.IsGen (Shared.heap ⟨hp, g, d, tk, os⟩) a1 g1 := hl1
    have hL2 : Heap.IsGen (Shared.heap ⟨hp, g, d, tk, os⟩) a2 g2 := hl2
    wp_walk using wpAny_pyIter_gen hL1, wpAny_pyIter_gen hL2
    exact ⟨_, rfl, h⟩
section
variable {P : Program} {w : World} {A : Around} {E : Value → Shared → Prop} {s : Shared}
theorem call_zipG {a1 a2 : Addr} {g1 g2 : Nat} {Q : Value → Shared → Prop} (hl1 : s.heap.IsGen a1 g1) (hl2 : s.heap.IsGen a2 g2)
    (h : ∀ h', IsZip h' (s.heap.objs.size + 2) s.heap.objs.size (s.heap.objs.size + 1) .none → IsPair h' s.heap.objs.size (.ref a1) (.ref a2) →
      IsPair h' (s.heap.objs.size + 1) .none .none → h'.objs.size = s.heap.objs.size + 3 →
      (∀ c o, s.heap.get? c = some o → h'.get? c = some o) → Q (.ref (s.heap.objs.size + 2)) { s with heap := h' }) :
    wpAny (model P w) A (call (.type "zip") [.ref a1, .ref a2]) Q E s := by
  refine callType_new F.called_zip (by decide) (F.typeCall_zip_2 _ _) (F.newCall_zip_2 _ _) (fun obj => F.args_object_init_3 obj _ _) F.entry_zip_new
    (meets_zipG_new a1 a2 g1 g2) ⟨hl1, hl2, ?_⟩
  have z1 : (zgH1 s.heap a1 a2).objs.size = s.heap.objs.size + 1 := Heap.size_push ..
  have z2 : (zgH2 s.heap a1 a2).objs.size = s.heap.objs.size + 2 := by rw [Heap.size_push, z1]
  have z3 : (zgH3 s.heap a1 a2).objs.size = s.heap.objs.size + 3 := by rw [Heap.size_push, z2]
  have g3 : (zgH3 s.heap a1 a2).get? (zgH2 s.heap a1 a2).objs.size = some _ := Heap.get?_push_size _ rfl
  have g2 : (zgH3 s.heap a1 a2).get? (zgH1 s.heap a1 a2).objs.size = some _ := Heap.get?_push_of_some _ (Heap.get?_push_size _ rfl)
  have g1 : (zgH3 s.heap a1 a2).get? s.heap.objs.size = some _ := Heap.get?_push_of_some _ (Heap.get?_push_of_some _ (Heap.get?_push_size _ rfl))
  show _ ∧ _
  rw [z1, z2] at g3
  rw [z1] at g2
  rw [z2]
  exact ⟨⟨_, g3, rfl⟩, h _ g3 g1 g2 z3 fun c o x => Heap.get?_push_of_some _ (Heap.get?_push_of_some _ (Heap.get?_push_of_some _ x))⟩
end
end Sq
set_option Elab.async false
set_option linter.all false
set_option maxRecDepth 100000
set_option maxHeartbeats 2000000
/-! A comprehension over zip of two generators: one turn of zip. -/
namespace Sq
open PySem PySem.Spec PyProof.Rows L2 GenW
/-- where the two generators, zip and the comprehension lie -/
structure Zx where
  G1 : Xg
  G2 : Xg
  TI : Addr
  TO : Addr
  z : Addr
  C : Addr
structure Zx.Ok (Z : Zx) (X : Cx) (pins : List (Addr × Obj)) : Prop where
  o1 : Z.G1.Ok
  o2 : Z.G2.Ok
  ab1 : Above X pins Z.G1.n0
  ab2 : Above X pins Z.G2.n0
  s1 : Z.G1.P = X.prog ∧ Z.G1.w = X.w ∧ Z.G1.K = X.K ∧ Z.G1.mg = X.mg ∧ Z.G1.base = X.base ∧ Z.G1.outer = X.stack ∧ Z.G1.A = X.A.in1.in1 ∧ Z.G1.A.frames = some X.stack
  s2 : Z.G2.P = X.prog ∧ Z.G2.w = X.w ∧ Z.G2.K = X.K ∧ Z.G2.mg = X.mg ∧ Z.G2.base = X.base ∧ Z.G2.outer = X.stack ∧ Z.G2.A = X.A.in1.in1 ∧ Z.G2.A.frames = some X.stack
  g : Z.G1.g ≠ Z.G2.g
  fs : ∀ b ∈ X.fs, b < Z.G1.n0
  q1 : Z.G1.a < Z.G2.n0
  qn : Z.G1.al ≠ Z.G2.al
  q2 : Z.G2.a < Z.TI
  q3 : Z.TI < Z.TO
  q4 : Z.TO < Z.z
  q5 : Z.z < Z.C
/-- what the readings know -/
structure Zx.Hf (Z : Zx) (H : Hp) : Prop where
  l1 : H Z.G1.al = some (.lst (Z.G1.ns.map V.int))
  l2 : H Z.G2.al = some (.lst (Z.G2.ns.map V.int))
  young : ∀ b u, Z.G1.n0 ≤ b → H b = some u → ∃ xs, u = .lst xs
  freeR : ∀ b, Z.G1.reg b ∨ Z.G2.reg b → H b = none
  free : ∀ b ∈ [Z.G1.n0, Z.G1.a, Z.G2.n0, Z.G2.a, Z.TI, Z.TO, Z.z, Z.C], H b = none
/-- an object that no list iterator is -/
def Solid (h : Heap) (b : Addr) : Prop := ∃ o, h.get? b = some o ∧ (o.cls ≠ .type "list_iterator" ∨ FrO o)
/-- what stands between the steps -/
structure Zx.At (Z : Zx) (X : Cx) (pins : List (Addr × Obj)) (σ : L2.St) (H : Hp) (i1 i2 : Nat) (s : Shared) : Prop where
  I : Inv X pins σ H s
  a1 : Asleep Z.G1 i1 s
  a2 : Asleep Z.G2 i2 s
  n1 : ∀ b, Z.G1.reg b → ∃ o, s.heap.get? b = some o ∧ FrO o
  n2 : ∀ b, Z.G2.reg b → ∃ o, s.heap.get? b = some o ∧ FrO o
  ti : IsPair s.heap Z.TI (.ref Z.G1.a) (.ref Z.G2.a)
  c : ∃ m, s.heap.Ns Z.C m
section
variable {Z : Zx} {X : Cx} {pins : List (Addr × Obj)} {σ : L2.St} {H : Hp} {i1 i2 : Nat} {s s' : Shared}
theorem iter_not_fr {h : Heap} {b al : Addr} {j : Nat} {o : Obj} (i : h.IsListIter b al j) (e : h.get? b = some o) : ¬ FrO o := fun d => by
  obtain ⟨o', e', c, d'⟩ := i
  rw [e] at e'
  cases e'
  rcases d with ⟨es, ep, d⟩ | ⟨v, d⟩
  · rw [d] at d'
    cases d'
  · rw [d] at d'
    cases d'
theorem lst_not_iter {P : Program} {w : World} {H : Hp} {h : Heap} {b al : Addr} {xs : List V} {j : Nat} (ok : HOk P w H h) (e : H b = some (.lst xs)) : ¬ h.IsListIter b al j := fun i => by
  obtain ⟨_, its, n, _, hl⟩ := ok b _ e
  obtain ⟨o', e', c, d'⟩ := i
  rw [hl] at e'
  cases e'
  cases d'
theorem mine1 (f : Z.Hf H) (ok : Z.Ok X pins) (I : Inv X pins σ H s) : ∀ b, Mine s.heap Z.G1.reg Z.G1.a Z.G1.al b → H b = none := fun b m => by
  rcases m with m | ⟨m, j, it⟩
  · exact f.freeR b (.inl m)
  · cases e : H b with
    | none => rfl
    | some u =>
      obtain ⟨xs, rfl⟩ := f.young b u (Nat.le_of_lt (Nat.lt_trans ok.o1.na m)) e
      exact absurd it (lst_not_iter I.hok e)
theorem mine2 (f : Z.Hf H) (ok : Z.Ok X pins) (I : Inv X pins σ H s) : ∀ b, Mine s.heap Z.G2.reg Z.G2.a Z.G2.al b → H b = none := fun b m => by
  rcases m with m | ⟨m, j, it⟩
  · exact f.freeR b (.inr m)
  · cases e : H b with
    | none => rfl
    | some u =>
      have l : Z.G1.n0 < b := Nat.lt_trans ok.o1.na (Nat.lt_trans ok.q1 (Nat.lt_trans ok.o2.na m))
      obtain ⟨xs, rfl⟩ := f.young b u (Nat.le_of_lt l) e
      exact absurd it (lst_not_iter I.hok e)
/-- a generator may be woken -/
theorem e0_of {G : Xg} (I : Inv X pins σ H s) (st : G.P = X.prog ∧ G.w = X.w ∧ G.K = X.K ∧ G.mg = X.mg ∧ G.base = X.base ∧ G.outer = X.stack ∧ G.A = X.A.in1.in1 ∧ G.A.frames = some X.stack) (l : H G.al = some (.lst (G.ns.map V.int))) : G.E0 s := by
  obtain ⟨e1, e2, e3, e4, e5, e6, e7, e8⟩ := st
  have e := I.env0
  have ne : ∀ {b : Addr}, H b = none → alH G.al G.ns b = none := fun {b} h => alH_ne fun z => by
    rw [z, l] at h
    cases h
  show Env0 G.P G.w G.K G.mg G.base G.A G.outer s (alH G.al G.ns)
  rw [e1, e2, e3, e4, e5, e6]
  refine ⟨e8, e.mod, fun b o q => ⟨(e.bs b o q).1, ne (e.bs b o q).2⟩, e.bsz, e.funs, fun b hb => ne (e.frf b hb), fun b u q => ?_, e.bare⟩
  by_cases hb : b = G.al
  · subst hb
    rw [alH_at] at q
    cases q
    obtain ⟨z, its, m, r, eo⟩ := e.hok G.al _ l
    exact ⟨z, its, m, r, eo⟩
  · rw [alH_ne hb] at q
    cases q
theorem Zx.Ok.ord (ok : Z.Ok X pins) : Z.G1.n0 < Z.G1.a ∧ Z.G1.a < Z.G2.n0 ∧ Z.G2.n0 < Z.G2.a ∧ Z.G2.a < Z.TI ∧ Z.TI < Z.TO ∧ Z.TO < Z.z ∧ Z.z < Z.C :=
  ⟨ok.o1.na, ok.q1, ok.o2.na, ok.q2, ok.q3, ok.q4, ok.q5⟩
theorem fp_zip (f : Z.Hf H) (ok : Z.Ok X pins) : ∀ b ∈ [Z.z, Z.TO], FpOk X pins H b := fun b hb => by
  obtain ⟨w1, w2, w3, w4, w5, w6, w7⟩ := ok.ord
  have g1n : Z.G1.n0 < b := by
    have e : b = Z.z ∨ b = Z.TO := by simpa using hb
    have l : Z.G1.n0 < Z.TO := Nat.lt_trans w1 (Nat.lt_trans w2 (Nat.lt_trans w3 (Nat.lt_trans w4 w5)))
    rcases e with e | e
    · rw [e]
      exact Nat.lt_trans l w6
    · rw [e]
      exact l
  have hf : H b = none := f.free b (by
    have e : b = Z.z ∨ b = Z.TO := by simpa using hb
    rcases e with e | e <;> rw [e] <;> simp)
  refine ⟨hf, Nat.ne_of_gt (Nat.lt_trans ok.ab1.loc g1n), fun m => ?_, .inr (Nat.le_of_lt (Nat.lt_of_le_of_lt ok.ab1.young g1n)), fun x c e z => ?_, fun p hp z => ?_⟩
  · exact absurd (Nat.lt_trans (ok.fs b m) g1n) (Nat.lt_irrefl _)
  · exact absurd z (Nat.ne_of_lt (Nat.lt_trans (ok.ab1.cell x c e) g1n))
  · exact absurd z (Nat.ne_of_lt (Nat.lt_trans (ok.ab1.pin p hp) g1n))
theorem at_touch {h' : Heap} {t' : Nat} (f : Z.Hf H) (ok : Z.Ok X pins) (A : Z.At X pins σ H i1 i2 s) (solz : Solid s.heap Z.z) (solT : Solid s.heap Z.TO) (k : ∀ c o, c ≠ Z.z → c ≠ Z.TO → s.heap.get? c = some o → h'.get? c = some o) : Z.At X pins σ H i1 i2 { s with heap := h', toks := t' } := by
  obtain ⟨w1, w2, w3, w4, w5, w6, w7⟩ := ok.ord
  have noit : ∀ {b c al : Addr} {j : Nat}, Solid s.heap b → s.heap.IsListIter c al j → c ≠ b := fun sol i e => by
    obtain ⟨o, eo, no⟩ := sol
    obtain ⟨o', e', c', d'⟩ := i
    rw [e, eo] at e'
    cases e'
    rcases no with no | no
    · exact no c'
    · exact iter_not_fr ⟨_, eo, c', d'⟩ eo no
  have lo : ∀ {c : Addr} {o : Obj}, c < Z.TO → s.heap.get? c = some o → h'.get? c = some o := fun {c o} l e => k c o (Nat.ne_of_lt (Nat.lt_trans l w6)) (Nat.ne_of_lt l) e
  have g2a : Z.G2.a < Z.TO := Nat.lt_trans w4 w5
  have g2n : Z.G2.n0 < Z.TO := Nat.lt_trans w3 g2a
  have g1a : Z.G1.a < Z.TO := Nat.lt_trans w2 g2n
  have g1n : Z.G1.n0 < Z.TO := Nat.lt_trans w1 g1a
  refine ⟨A.I.turnedL (t' := t') (ch := [Z.z, Z.TO]) (fun c o hb q => k c o (fun z => hb (by simp [z])) (fun z => hb (by simp [z])) q) (fp_zip f ok), A.a1.keep rfl fun c o m q => ?_, A.a2.keep rfl fun c o m q => ?_, ?_, ?_, lo w5 A.ti, ?_⟩
  · rcases m with m | m | ⟨_, j, it⟩
    · exact lo (m ▸ g1a) q
    · exact lo (Nat.lt_trans (ok.o1.rlt m).2 g1a) q
    · exact k c o (noit solz it) (noit solT it) q
  · rcases m with m | m | ⟨_, j, it⟩
    · exact lo (m ▸ g2a) q
    · exact lo (Nat.lt_trans (ok.o2.rlt m).2 g2a) q
    · exact k c o (noit solz it) (noit solT it) q
  · intro b m
    obtain ⟨o, e, d⟩ := A.n1 b m
    exact ⟨o, lo (Nat.lt_trans (ok.o1.rlt m).2 g1a) e, d⟩
  · intro b m
    obtain ⟨o, e, d⟩ := A.n2 b m
    exact ⟨o, lo (Nat.lt_trans (ok.o2.rlt m).2 g2a) e, d⟩
  · obtain ⟨m, o, es, ep, e, r⟩ := A.c
    exact ⟨m, o, es, ep, k _ _ (Nat.ne_of_gt w7) (Nat.ne_of_gt (Nat.lt_trans w6 w7)) e, r⟩
/-- no list -/
def NoList (o : Obj) : Prop := o.cls ≠ .type "list" ∨ FrO o
theorem not_list {X : Cx} {pins : List (Addr × Obj)} {σ : L2.St} {H : Hp} {s : Shared} {al b : Addr} {xs : List V} {o : Obj} (I : Inv X pins σ H s) (l : H al = some (.lst xs)) (e : s.heap.get? b = some o) (n : NoList o) : b ≠ al := fun z => by
  obtain ⟨_, its, m, _, hl⟩ := I.hok _ _ l
  rw [z, hl] at e
  cases e
  rcases n with n | ⟨es, ep, n⟩ | ⟨v, n⟩
  · exact n rfl
  · cases n
  · cases n
theorem at_first (f : Z.Hf H) (ok : Z.Ok X pins) (A : Z.At X pins σ H i1 i2 s) (kt : Kept Z.G1 s s') {j : Nat} (as : Asleep Z.G1 j s') : Z.At X pins σ H j i2 s' := by
  obtain ⟨w1, w2, w3, w4, w5, w6, w7⟩ := ok.ord
  have nfr : ∀ {b : Addr}, Z.G1.n0 < b → b ∉ frs Z.G1.outer := fun {b} l m => absurd (Nat.lt_trans (ok.o1.low b m) l) (Nat.lt_irrefl _)
  have nal := fun {b : Addr} {o : Obj} => not_list (b := b) (o := o) A.I f.l1
  have keep : ∀ b o, Z.G1.a < b → NoList o → (∀ j, ¬ s.heap.IsListIter b Z.G1.al j) → s.heap.get? b = some o → s'.heap.get? b = some o := fun b o l nl ni e => kt.keep b o e (nfr (Nat.lt_trans w1 l)) (fun m => by
    rcases m with m | ⟨_, j, it⟩
    · exact absurd (Nat.lt_trans (ok.o1.rlt m).2 l) (Nat.lt_irrefl _)
    · exact ni j it) (nal e nl)
  have l2n : Z.G1.a < Z.G2.n0 := w2
  have l2a : Z.G1.a < Z.G2.a := Nat.lt_trans l2n w3
  have lTI : Z.G1.a < Z.TI := Nat.lt_trans l2a w4
  have lC : Z.G1.a < Z.C := Nat.lt_trans lTI (Nat.lt_trans w5 (Nat.lt_trans w6 w7))
  have n2k : ∀ b, Z.G2.reg b → ∀ o, s.heap.get? b = some o → s'.heap.get? b = some o := fun b m o e => by
    obtain ⟨o', e', d⟩ := A.n2 b m
    have eo := e'
    rw [e] at eo
    cases eo
    exact keep _ o (Nat.lt_of_lt_of_le l2n (ok.o2.rlt m).1) (.inr d) (fun j it => iter_not_fr it e' d) e
  refine ⟨inv_kept A.I ok.o1 ok.ab1 ok.s1.2.2.2.2.2.1 ok.s1.1 ok.s1.2.1 kt f.l1 (mine1 f ok A.I), as, A.a2.keep (kt.gens _ (Ne.symm ok.g)) fun c o m q => ?_, kt.there, ?_, ?_, ?_⟩
  · rcases m with m | m | ⟨lt, j, it⟩
    · rw [m] at q ⊢
      obtain ⟨o', nm, qn, e', r⟩ := A.a2.gen
      have eo := e'
      rw [q] at eo
      cases eo
      refine keep _ o l2a (.inl (by rw [r.1]; decide)) (fun j it => ?_) q
      obtain ⟨o2, e2, c2, _⟩ := it
      rw [e'] at e2
      cases e2
      rw [r.1] at c2
      exact absurd c2 (by decide)
    · exact n2k c m o q
    · obtain ⟨o1, e1, c1, d1⟩ := it
      have eo := e1
      rw [q] at eo
      cases eo
      refine keep c o (Nat.lt_trans l2a lt) (.inl (by rw [c1]; decide)) (fun j' it' => ?_) q
      obtain ⟨o2, e2, c2, d2⟩ := it'
      rw [e1] at e2
      cases e2
      rw [d1] at d2
      have z : Z.G2.al = Z.G1.al := by
        injection d2 with d2
        have := congrArg (fun a : Array Value => a[0]?) d2
        simpa using this
      exact ok.qn z.symm
  · intro b m
    obtain ⟨o, e, d⟩ := A.n2 b m
    exact ⟨o, n2k b m o e, d⟩
  · refine keep _ _ lTI (.inl (show Value.type "tuple" ≠ Value.type "list" by decide)) (fun j it => ?_) A.ti
    obtain ⟨o2, e2, c2, _⟩ := it
    have ti := A.ti
    rw [show s.heap.get? Z.TI = _ from ti] at e2
    cases e2
    exact absurd (show Value.type "tuple" = Value.type "list_iterator" from c2) (by decide)
  · obtain ⟨m, o, es, ep, e, r⟩ := A.c
    exact ⟨m, o, es, ep, keep _ o lC (.inr (.inl ⟨es, ep, r.1⟩)) (fun j it => iter_not_fr it e (.inl ⟨es, ep, r.1⟩)) e, r⟩
theorem keptZ1 (ok : Z.Ok X pins) (f : Z.Hf H) (I : Inv X pins σ H s) (kt : Kept Z.G1 s s') {b : Addr} {o : Obj} (l : Z.G1.a < b) (e : s.heap.get? b = some o) (nc : o.cls ≠ .type "list_iterator") (nl : NoList o) : s'.heap.get? b = some o :=
  kt.keep b o e (fun m => absurd (Nat.lt_trans (Nat.lt_trans (ok.o1.low b m) ok.o1.na) l) (Nat.lt_irrefl _)) (fun m => by
    rcases m with m | ⟨_, j, o', e', c', _⟩
    · exact absurd (Nat.lt_trans (ok.o1.rlt m).2 l) (Nat.lt_irrefl _)
    · rw [e] at e'
      cases e'
      exact nc c') (not_list I f.l1 e nl)
theorem keptZ2 (ok : Z.Ok X pins) (f : Z.Hf H) (I : Inv X pins σ H s) (kt : Kept Z.G2 s s') {b : Addr} {o : Obj} (l : Z.G2.a < b) (e : s.heap.get? b = some o) (nc : o.cls ≠ .type "list_iterator") (nl : NoList o) : s'.heap.get? b = some o :=
  kt.keep b o e (fun m => absurd (Nat.lt_trans (Nat.lt_trans (ok.o2.low b m) ok.o2.na) l) (Nat.lt_irrefl _)) (fun m => by
    rcases m with m | ⟨_, j, o', e', c', _⟩
    · exact absurd (Nat.lt_trans (ok.o2.rlt m).2 l) (Nat.lt_irrefl _)
    · rw [e] at e'
      cases e'
      exact nc c') (not_list I f.l2 e nl)
/-- behind the second's turn -/
theorem at_second (f : Z.Hf H) (ok : Z.Ok X pins) (A : Z.At X pins σ H i1 i2 s) (kt : Kept Z.G2 s s') {j : Nat} (as : Asleep Z.G2 j s') : Z.At X pins σ H i1 j s' := by
  obtain ⟨w1, w2, w3, w4, w5, w6, w7⟩ := ok.ord
  have low : ∀ {b : Addr}, Z.G1.n0 ≤ b → b ∉ frs Z.G2.outer := fun {b} l m => by
    have e : Z.G2.outer = Z.G1.outer := ok.s2.2.2.2.2.2.1.trans ok.s1.2.2.2.2.2.1.symm
    rw [e] at m
    exact absurd (ok.o1.low b m) (Nat.not_lt_of_le l)
  have nal : ∀ {b : Addr} {o : Obj}, s.heap.get? b = some o → o.cls ≠ .type "list" → b ≠ Z.G2.al := fun {b o} e nc z => by
    obtain ⟨_, its, n, _, hl⟩ := A.I.hok _ _ f.l2
    rw [z, hl] at e
    cases e
    exact nc rfl
  have lTI : Z.G2.a < Z.TI := w4
  have n1k : ∀ b, Z.G1.reg b → ∀ o, s.heap.get? b = some o → s'.heap.get? b = some o := fun b mb o e => by
    obtain ⟨o', e', d⟩ := A.n1 b mb
    refine kt.keep _ o e (low (ok.o1.rlt mb).1) (fun m => ?_) fun z => ?_
    · rcases m with m | ⟨_, j, it⟩
      · exact absurd (Nat.lt_trans (ok.o1.rlt mb).2 (Nat.lt_of_lt_of_le w2 (ok.o2.rlt m).1)) (Nat.lt_irrefl _)
      · exact iter_not_fr it e' d
    · have q := f.freeR b (.inl mb)
      rw [z, f.l2] at q
      cases q
  refine ⟨inv_kept A.I ok.o2 ok.ab2 ok.s2.2.2.2.2.2.1 ok.s2.1 ok.s2.2.1 kt f.l2 (mine2 f ok A.I), A.a1.keep (kt.gens _ ok.g) fun c o m q => ?_, as, ?_, kt.there, ?_, ?_⟩
  · rcases m with m | m | ⟨lt, j, it⟩
    · rw [m] at q ⊢
      obtain ⟨o', nm, qn, e', r⟩ := A.a1.gen
      refine kt.keep _ o q (low (Nat.le_of_lt w1)) (fun m => ?_) fun z => ?_
      · rcases m with m | ⟨_, j, o2, e2, c2, _⟩
        · exact absurd (Nat.lt_of_lt_of_le w2 (ok.o2.rlt m).1) (Nat.lt_irrefl _)
        · rw [e'] at e2
          cases e2
          rw [r.1] at c2
          exact absurd c2 (by decide)
      · have q := f.free Z.G1.a (by simp)
        rw [z, f.l2] at q
        cases q
    · exact n1k c m o q
    · refine kt.keep c o q (low (Nat.le_of_lt (Nat.lt_trans w1 lt))) (fun m => ?_) fun z => ?_
      · rcases m with m | ⟨_, j', it'⟩
        · obtain ⟨o', e', d⟩ := A.n2 c m
          exact iter_not_fr it e' d
        · obtain ⟨o1, e1, c1, d1⟩ := it
          obtain ⟨o2, e2, c2, d2⟩ := it'
          rw [e1] at e2
          cases e2
          rw [d1] at d2
          have z : Z.G1.al = Z.G2.al := by
            injection d2 with d2
            have := congrArg (fun a : Array Value => a[0]?) d2
            simpa using this
          exact ok.qn z
      · rw [z] at it
        exact lst_not_iter A.I.hok f.l2 it
  · intro b m
    obtain ⟨o, e, d⟩ := A.n1 b m
    exact ⟨o, n1k b m o e, d⟩
  · exact keptZ2 ok f A.I kt lTI A.ti (fun z => absurd (show Value.type "tuple" = Value.type "list_iterator" from z) (by decide)) (.inl (show Value.type "tuple" ≠ Value.type "list" by decide))
  · obtain ⟨m, o, es, ep, e, r⟩ := A.c
    refine ⟨m, o, es, ep, kt.keep _ o e (low (Nat.le_of_lt (Nat.lt_trans w1 (Nat.lt_trans w2 (Nat.lt_trans w3 (Nat.lt_trans lTI (Nat.lt_trans w5 (Nat.lt_trans w6 w7)))))))) (fun m => ?_) (fun z => ?_), r⟩
    · rcases m with m | ⟨_, j, it⟩
      · exact absurd (Nat.lt_trans (ok.o2.rlt m).2 (Nat.lt_trans lTI (Nat.lt_trans w5 (Nat.lt_trans w6 w7)))) (Nat.lt_irrefl _)
      · exact iter_not_fr it e (.inl ⟨es, ep, r.1⟩)
    · obtain ⟨_, its, n, _, hl⟩ := A.I.hok _ _ f.l2
      rw [z, hl] at e
      cases e
      cases r.1
/-- the next pair -/
theorem pair_next (f : Z.Hf H) (ok : Z.Ok X pins) (A : Z.At X pins σ H i1 i2 s) (hcalm : X.A.handled = none) (hroom : X.A.depth < recursionLimit) (hz : IsZip s.heap Z.z Z.TI Z.TO .none) (hTO : ∃ a b, IsPair s.heap Z.TO a b) {E : Value → Shared → Prop} {Q : Option Value → Shared → Prop}
    (item : ∀ (j1 j2 : Nat) (T : Addr) (v1 v2 : Nat) (t1 t2 : Tok) (s' : Shared), i1 = j1 + 1 → i2 = j2 + 1 → v1 = Z.G1.tot - i1 → v2 = Z.G2.tot - i2 → Z.At X pins σ H j1 j2 s' → IsZip s'.heap Z.z Z.TI Z.TO (rawInt T) → (∃ a b, IsPair s'.heap Z.TO a b) → IsPair s'.heap T (.int (Z.G1.val v1) t1) (.int (Z.G2.val v2) t2) → Z.C < T → Q (some (.ref T)) s')
    (done : i1 = 0 → ∀ s', Inv X pins σ H s' → (∃ m, s'.heap.Ns Z.C m) → Q none s') (same : i1 = i2) : wpAny (model X.prog X.w) X.A (pyNext (.ref Z.z)) Q E s := by
  obtain ⟨w1, w2, w3, w4, w5, w6, w7⟩ := ok.ord
  obtain ⟨a0, b0, hTO⟩ := hTO
  have nzt : Z.TO ≠ Z.z := Nat.ne_of_lt w6
  have lTO : Z.G1.a < Z.TO := Nat.lt_trans w2 (Nat.lt_trans w3 (Nat.lt_trans w4 w5))
  have lTO2 : Z.G2.a < Z.TO := Nat.lt_trans w4 w5
  have cz : ∀ {f0 : Value}, ({ cls := .type "zip", dict := none, data := .fields #[f0, .bool false, .bool false, .ref Z.TI, .ref Z.TO], slots := #[] } : Obj).cls ≠ .type "list_iterator" := fun {f0} q => absurd (show Value.type "zip" = Value.type "list_iterator" from q) (by decide)
  have cT : ∀ {x y : Value}, ({ cls := .type "tuple", data := .seq #[x, y] } : Obj).cls ≠ .type "list_iterator" := fun {x y} q => absurd (show Value.type "tuple" = Value.type "list_iterator" from q) (by decide)
  have nz : ∀ {f0 : Value}, NoList ({ cls := .type "zip", dict := none, data := .fields #[f0, .bool false, .bool false, .ref Z.TI, .ref Z.TO], slots := #[] } : Obj) := fun {f0} => .inl (show Value.type "zip" ≠ Value.type "list" by decide)
  have nT : ∀ {x y : Value}, NoList ({ cls := .type "tuple", data := .seq #[x, y] } : Obj) := fun {x y} => .inl (show Value.type "tuple" ≠ Value.type "list" by decide)
  refine next_zip (a := a0) (b := b0) (Nat.ne_of_gt w6) hz A.ti fun h₁ hz₁ sb₁ => ?_
  have A1 : Z.At X pins σ H i1 i2 { s with heap := h₁ } := at_touch (t' := s.toks) f ok A ⟨_, hz, .inl cz⟩ ⟨_, hTO, .inl cT⟩ fun c o h1 _ e => (sb₁.2 c h1).trans e
  have hTO₁ : IsPair h₁ Z.TO a0 b0 := (sb₁.2 _ nzt).trans hTO
  have hw := wake_turn (A := X.A.in1) ok.o1 A1.a1 (e0_of A1.I ok.s1 f.l1) ok.s1.2.2.2.2.2.2.1 hcalm hroom
  rw [ok.s1.1, ok.s1.2.1] at hw
  refine wpAny_mono hw (fun x s₂ hh => ?_) fun x s₂ hh => ?_
  · obtain ⟨m, i, hn, hi, ⟨t, ev⟩, kt, as⟩ := hh
    have A2 := at_first f ok A1 kt as
    have hz₂ : IsZip s₂.heap Z.z Z.TI Z.TO .ellipsis := keptZ1 ok f A1.I kt (Nat.lt_trans lTO w6) hz₁ cz nz
    have hTO₂ : IsPair s₂.heap Z.TO a0 b0 := keptZ1 ok f A1.I kt lTO hTO₁ cT nT
    refine ⟨hz₂, hTO₂, fun h₃ sb₃ hTO₃ => ?_⟩
    have A3 : Z.At X pins σ H m i2 { s₂ with heap := h₃ } := at_touch (t' := s₂.toks) f ok A2 ⟨_, hz₂, .inl cz⟩ ⟨_, hTO₂, .inl cT⟩ fun c o _ h1 e => (sb₃.2 c h1).trans e
    have hz₃ : IsZip h₃ Z.z Z.TI Z.TO .ellipsis := (sb₃.2 _ (Ne.symm nzt)).trans hz₂
    have hw2 := wake_turn (A := X.A.in1) ok.o2 A3.a2 (e0_of A3.I ok.s2 f.l2) ok.s2.2.2.2.2.2.2.1 hcalm hroom
    rw [ok.s2.1, ok.s2.2.1] at hw2
    refine wpAny_mono hw2 (fun y s₄ hh => ?_) fun y s₄ hh => ?_
    · obtain ⟨m2, i', hn2, hi2, ⟨t2, ev2⟩, kt2, as2⟩ := hh
      have A4 := at_second f ok A3 kt2 as2
      have hz₄ : IsZip s₄.heap Z.z Z.TI Z.TO .ellipsis := keptZ2 ok f A3.I kt2 (Nat.lt_trans lTO2 w6) hz₃ cz nz
      have hTO₄ : IsPair s₄.heap Z.TO x b0 := keptZ2 ok f A3.I kt2 lTO2 hTO₃ cT nT
      refine ⟨hz₄, hTO₄, fun h' hz' hTO' hT' k' => ?_⟩
      have A5 : Z.At X pins σ H m m2 { s₄ with heap := h' } := at_touch (t' := s₄.toks) f ok A4 ⟨_, hz₄, .inl cz⟩ ⟨_, hTO₄, .inl cT⟩ k'
      subst ev ev2
      obtain ⟨mm, hns⟩ := A4.c
      exact item m m2 s₄.heap.objs.size i i' t t2 _ hn hn2 (by omega) (by omega) A5 hz' ⟨_, _, hTO'⟩ hT' hns.lt
    · exact absurd hh.1 (by omega)
  · obtain ⟨hn0, b, o, eb, ho, hc, kt⟩ := hh
    subst eb
    have hz₂ : IsZip s₂.heap Z.z Z.TI Z.TO .ellipsis := keptZ1 ok f A1.I kt (Nat.lt_trans lTO w6) hz₁ cz nz
    have I2 : Inv X pins σ H s₂ := inv_kept A1.I ok.o1 ok.ab1 ok.s1.2.2.2.2.2.1 ok.s1.1 ok.s1.2.1 kt f.l1 (mine1 f ok A1.I)
    have nb : b ≠ Z.z := fun q => by
      rw [q, show s₂.heap.get? Z.z = _ from hz₂] at ho
      cases ho
      exact absurd (show Value.type "zip" = Value.type "StopIteration" from hc) (by decide)
    refine ⟨hz₂, fun h sb => ⟨b, o, rfl, (sb.2 b nb).trans ho, hc, done hn0 _ ?_ ?_⟩⟩
    · exact I2.turnedL (t' := s₂.toks) (ch := [Z.z, Z.TO]) (fun c o hb q => (sb.2 c fun z => hb (by simp [z])).trans q) (fp_zip f ok)
    · obtain ⟨mm, o', es, ep, e, r⟩ := A1.c
      have lC : Z.G1.a < Z.C := Nat.lt_trans lTO (Nat.lt_trans w6 w7)
      refine ⟨mm, o', es, ep, (sb.2 _ (Nat.ne_of_gt w7)).trans (kt.keep _ _ e (fun q => absurd (Nat.lt_trans (Nat.lt_trans (ok.o1.low _ q) ok.o1.na) lC) (Nat.lt_irrefl _)) (fun q => ?_) (not_list A1.I f.l1 e (.inr (.inl ⟨es, ep, r.1⟩)))), r⟩
      rcases q with q | ⟨_, j, it⟩
      · exact absurd (Nat.lt_trans (ok.o1.rlt q).2 lC) (Nat.lt_irrefl _)
      · exact iter_not_fr it e (.inl ⟨es, ep, r.1⟩)
end
end Sq
set_option Elab.async false
set_option linter.all false
set_option maxRecDepth 100000
set_option maxHeartbeats 2000000
/-! zip of two generators that have not begun: its first pair. -/
namespace Sq
open PySem PySem.Spec PyProof.Rows L2 GenW
structure Zv where
  V1 : Vg
  V2 : Vg
  ns1 : List Int
  ns2 : List Int
  tot : Nat
  val1 : Nat → Int
  val2 : Nat → Int
  TI : Addr
  TO : Addr
  z : Addr
  C : Addr
abbrev Zv.zx (Z : Zv) (al1 al2 : Addr) : Zx := ⟨Z.V1.x al1 Z.ns1 Z.tot Z.val1, Z.V2.x al2 Z.ns2 Z.tot Z.val2, Z.TI, Z.TO, Z.z, Z.C⟩
structure Zv.Ok (Z : Zv) (X : Cx) (pins : List (Addr × Obj)) : Prop where
  o1 : Z.V1.Ok
  o2 : Z.V2.Ok
  ab1 : Above X pins Z.V1.n0
  ab2 : Above X pins Z.V2.n0
  s1 : Z.V1.P = X.prog ∧ Z.V1.w = X.w ∧ Z.V1.K = X.K ∧ Z.V1.mg = X.mg ∧ Z.V1.base = X.base ∧ Z.V1.outer = X.stack ∧ Z.V1.A = X.A.in1.in1 ∧ Z.V1.A.frames = some X.stack
  s2 : Z.V2.P = X.prog ∧ Z.V2.w = X.w ∧ Z.V2.K = X.K ∧ Z.V2.mg = X.mg ∧ Z.V2.base = X.base ∧ Z.V2.outer = X.stack ∧ Z.V2.A = X.A.in1.in1 ∧ Z.V2.A.frames = some X.stack
  g : Z.V1.g ≠ Z.V2.g
  fs : ∀ b ∈ X.fs, b < Z.V1.n0
  q1 : Z.V1.a < Z.V2.n0
  q2 : Z.V2.a < Z.TI
  q3 : Z.TI < Z.TO
  q4 : Z.TO < Z.z
  q5 : Z.z < Z.C
structure Zv.Hf (Z : Zv) (H : Hp) : Prop where
  w1 : ∀ b u, Z.V1.W b = some u → H b = some u
  w2 : ∀ b u, Z.V2.W b = some u → H b = some u
  young : ∀ b u, Z.V1.n0 ≤ b → H b = some u → ∃ xs, u = .lst xs
  freeR : ∀ b, Z.V1.reg b ∨ Z.V2.reg b → H b = none
  free : ∀ b ∈ [Z.V1.n0, Z.V1.a, Z.V2.n0, Z.V2.a, Z.TI, Z.TO, Z.z, Z.C], H b = none
structure Zv.At (Z : Zv) (X : Cx) (pins : List (Addr × Obj)) (σ : L2.St) (H : Hp) (s : Shared) : Prop where
  I : Inv X pins σ H s
  d1 : Dozing Z.V1 Z.ns1 Z.tot Z.val1 s
  d2 : Dozing Z.V2 Z.ns2 Z.tot Z.val2 s
  n1 : ∀ b, Z.V1.reg b → ∃ o, s.heap.get? b = some o ∧ FrO o
  n2 : ∀ b, Z.V2.reg b → ∃ o, s.heap.get? b = some o ∧ FrO o
  ti : IsPair s.heap Z.TI (.ref Z.V1.a) (.ref Z.V2.a)
  c : ∃ m, s.heap.Ns Z.C m
theorem hok_sub {P : Program} {w : World} {H W : Hp} {h : Heap} (wk : ∀ b u, W b = some u → (∃ φ, u = .ext φ) ∨ ∃ xs, u = .lst xs) (sub : ∀ b u, W b = some u → H b = some u) (x : HOk P w H h) : HOk P w W h := fun b u e => by
  have y := x b u (sub b u e)
  rcases wk b u e with ⟨φ, rfl⟩ | ⟨xs, rfl⟩
  · exact y
  · exact y
theorem new_ne {h : Heap} {b al : Addr} {o : Obj} (n : h.get? al = none) (e : h.get? b = some o) : b ≠ al := fun z => by
  rw [z, n] at e
  cases e
section
variable {Z : Zv} {X : Cx} {pins : List (Addr × Obj)} {σ : L2.St} {H : Hp} {s s' : Shared} {al : Addr} {ns : List Int}
theorem obj_there {P : Program} {w : World} {h : Heap} {a : Addr} {o : HO} (x : ObjOk P w H h a o) : ∃ u, h.get? a = some u := by
  cases o with
  | lst xs => obtain ⟨_, _, _, _, e⟩ := x; exact ⟨_, e⟩
  | tup xs => obtain ⟨_, _, _, u, e, _⟩ := x; exact ⟨u, e⟩
  | dK kvs => obtain ⟨_, _, _, _, o, _, _, e, _⟩ := x; exact ⟨o, e⟩
  | dT kvs => obtain ⟨_, _, _, _, o, _, _, e, _⟩ := x; exact ⟨o, e⟩
  | set S n => obtain ⟨o, _, _, _, e, _⟩ := x; exact ⟨o, e⟩
  | ins C dx fs => obtain ⟨_, _, _, e, _⟩ := x; exact ⟨_, e⟩
  | own y => exact x
  | xd fs => obtain ⟨_, ⟨_, _, _, e, _⟩, _⟩ := x; exact ⟨_, e⟩
  | rng lo hi => obtain ⟨_, _, _, e⟩ := x; exact ⟨_, e⟩
  | frz ob u => obtain ⟨e, _⟩ := x; exact ⟨_, e⟩
  | tbl ps => exact ⟨_, show h.get? a = some _ from x⟩
  | met f y => exact ⟨_, show h.get? a = some _ from x⟩
  | ext φ => obtain ⟨_, e, _⟩ := x; exact e
theorem new_none {P : Program} {w : World} {h : Heap} (ok : HOk P w H h) (n : h.get? al = none) : H al = none := by
  cases e : H al with
  | none => rfl
  | some u =>
    obtain ⟨o, q⟩ := obj_there (ok _ _ e)
    rw [n] at q
    cases q
theorem e0v_of {G : Vg} (ok : G.Ok) (I : Inv X pins σ H s) (st : G.P = X.prog ∧ G.w = X.w ∧ G.K = X.K ∧ G.mg = X.mg ∧ G.base = X.base ∧ G.outer = X.stack ∧ G.A = X.A.in1.in1 ∧ G.A.frames = some X.stack) (hw : ∀ b u, G.W b = some u → H b = some u) : G.E0 s := by
  obtain ⟨e1, e2, e3, e4, e5, e6, e7, e8⟩ := st
  have e := I.env0
  have ne : ∀ {b : Addr}, H b = none → G.W b = none := fun {b} h => by
    cases w : G.W b with
    | none => rfl
    | some u =>
      rw [hw b u w] at h
      cases h
  show Env0 G.P G.w G.K G.mg G.base G.A G.outer s G.W
  rw [e1, e2, e3, e4, e5, e6]
  exact ⟨e8, e.mod, fun b o q => ⟨(e.bs b o q).1, ne (e.bs b o q).2⟩, e.bsz, e.funs, fun b hb => ne (e.frf b hb), hok_sub ok.wkind hw e.hok, e.bare⟩
theorem keptG {G : Vg} (kt : Kept1 G al ns s s') {b : Addr} {o : Obj} (nf : b ∉ frs G.outer) (nn : ¬ G.reg b) (nw : G.W b = none) (e : s.heap.get? b = some o) (sol : o.cls ≠ .type "list_iterator" ∨ FrO o) : s'.heap.get? b = some o :=
  kt.keep b o e nf (fun m => by
    rcases m with m | ⟨_, j, o', e', c', d'⟩
    · exact nn m
    · rw [e] at e'
      cases e'
      rcases sol with sol | sol
      · exact sol c'
      · exact iter_not_fr ⟨_, e, c', d'⟩ e sol) nw
theorem Zv.Ok.ord (ok : Z.Ok X pins) : Z.V1.n0 < Z.V1.a ∧ Z.V1.a < Z.V2.n0 ∧ Z.V2.n0 < Z.V2.a ∧ Z.V2.a < Z.TI ∧ Z.TI < Z.TO ∧ Z.TO < Z.z ∧ Z.z < Z.C :=
  ⟨ok.o1.na, ok.q1, ok.o2.na, ok.q2, ok.q3, ok.q4, ok.q5⟩
theorem fp_bigV {b : Addr} (ok : Z.Ok X pins) (l : Z.V1.n0 < b) (hf : H b = none) : FpOk X pins H b :=
  ⟨hf, Nat.ne_of_gt (Nat.lt_trans ok.ab1.loc l), fun m => absurd (Nat.lt_trans (ok.fs b m) l) (Nat.lt_irrefl _), .inr (Nat.le_of_lt (Nat.lt_of_le_of_lt ok.ab1.young l)), fun x c e z => absurd z (Nat.ne_of_lt (Nat.lt_trans (ok.ab1.cell x c e) l)), fun p hp z => absurd z (Nat.ne_of_lt (Nat.lt_trans (ok.ab1.pin p hp) l))⟩
theorem doz_keep {G : Vg} {tot : Nat} {val : Nat → Int} (d : Dozing G ns tot val s) (n : ∀ b, G.reg b → ∃ o, s.heap.get? b = some o ∧ FrO o) (hg : s'.gens[G.g]? = s.gens[G.g]?) (k : ∀ b o, (b = G.a ∨ G.reg b) → (o.cls ≠ .type "list_iterator" ∨ FrO o) → s.heap.get? b = some o → s'.heap.get? b = some o) : Dozing G ns tot val s' := by
  refine d.keep hg fun b o m q => k b o m ?_ q
  rcases m with m | m
  · obtain ⟨o', nm, qn, e', r⟩ := d.gen
    rw [m, e'] at q
    cases q
    exact .inl (by rw [r.1]; decide)
  · obtain ⟨o', e', d'⟩ := n b m
    rw [e'] at q
    cases q
    exact .inr d'
/-- zip or its tuple is written -/
theorem atv_touch {h' : Heap} {t' : Nat} (f : Z.Hf H) (ok : Z.Ok X pins) (A : Z.At X pins σ H s) (k : ∀ c o, c ≠ Z.z → c ≠ Z.TO → s.heap.get? c = some o → h'.get? c = some o) : Z.At X pins σ H { s with heap := h', toks := t' } := by
  obtain ⟨w1, w2, w3, w4, w5, w6, w7⟩ := ok.ord
  have lo : ∀ {c : Addr} {o : Obj}, c < Z.TO → s.heap.get? c = some o → h'.get? c = some o := fun {c o} l e => k c o (Nat.ne_of_lt (Nat.lt_trans l w6)) (Nat.ne_of_lt l) e
  have g2a : Z.V2.a < Z.TO := Nat.lt_trans w4 w5
  have g2n : Z.V2.n0 < Z.TO := Nat.lt_trans w3 g2a
  have g1a : Z.V1.a < Z.TO := Nat.lt_trans w2 g2n
  have g1n : Z.V1.n0 < Z.TO := Nat.lt_trans w1 g1a
  refine ⟨A.I.turnedL (t' := t') (ch := [Z.z, Z.TO]) (fun c o hb q => k c o (fun z => hb (by simp [z])) (fun z => hb (by simp [z])) q) (fun b hb => ?_), A.d1.keep rfl fun c o m q => ?_, A.d2.keep rfl fun c o m q => ?_, ?_, ?_, lo w5 A.ti, ?_⟩
  · have e : b = Z.z ∨ b = Z.TO := by simpa using hb
    rcases e with e | e
    · exact fp_bigV ok (e ▸ Nat.lt_trans g1n w6) (f.free b (by simp [e]))
    · exact fp_bigV ok (e ▸ g1n) (f.free b (by simp [e]))
  · rcases m with m | m
    · exact lo (m ▸ g1a) q
    · exact lo (Nat.lt_trans (ok.o1.rlt m).2 g1a) q
  · rcases m with m | m
    · exact lo (m ▸ g2a) q
    · exact lo (Nat.lt_trans (ok.o2.rlt m).2 g2a) q
  · intro b m
    obtain ⟨o, e, d⟩ := A.n1 b m
    exact ⟨o, lo (Nat.lt_trans (ok.o1.rlt m).2 g1a) e, d⟩
  · intro b m
    obtain ⟨o, e, d⟩ := A.n2 b m
    exact ⟨o, lo (Nat.lt_trans (ok.o2.rlt m).2 g2a) e, d⟩
  · obtain ⟨m, o, es, ep, e, r⟩ := A.c
    exact ⟨m, o, es, ep, k _ _ (Nat.ne_of_gt w7) (Nat.ne_of_gt (Nat.lt_trans w6 w7)) e, r⟩
/-- behind the first's first turn -/
structure Zv.Mid (Z : Zv) (X : Cx) (pins : List (Addr × Obj)) (σ : L2.St) (H : Hp) (al1 : Addr) (i1 : Nat) (s : Shared) : Prop where
  I : Inv X pins σ (upd H al1 (.lst (Z.ns1.map V.int))) s
  a1 : Asleep (Z.V1.x al1 Z.ns1 Z.tot Z.val1) i1 s
  d2 : Dozing Z.V2 Z.ns2 Z.tot Z.val2 s
  n1 : ∀ b, Z.V1.reg b → ∃ o, s.heap.get? b = some o ∧ FrO o
  n2 : ∀ b, Z.V2.reg b → ∃ o, s.heap.get? b = some o ∧ FrO o
  ti : IsPair s.heap Z.TI (.ref Z.V1.a) (.ref Z.V2.a)
  c : ∃ m, s.heap.Ns Z.C m
  new : H al1 = none
theorem mineV (f : Z.Hf H) {R : Addr → Prop} {a : Addr} (l : Z.V1.n0 ≤ a) (hn : ∀ b, R b → H b = none) (ok : HOk X.prog X.w H s.heap) : ∀ b, Mine s.heap R a al b → H b = none := fun b m => by
  rcases m with m | ⟨m, j, it⟩
  · exact hn b m
  · cases e : H b with
    | none => rfl
    | some u =>
      obtain ⟨xs, rfl⟩ := f.young b u (Nat.le_trans l (Nat.le_of_lt m)) e
      exact absurd it (lst_not_iter ok e)
theorem mid_of (f : Z.Hf H) (ok : Z.Ok X pins) (A : Z.At X pins σ H s) {al1 : Addr} {j : Nat} (kt : Kept1 Z.V1 al1 Z.ns1 s s') (as : Asleep (Z.V1.x al1 Z.ns1 Z.tot Z.val1) j s') : Z.Mid X pins σ H al1 j s' := by
  obtain ⟨w1, w2, w3, w4, w5, w6, w7⟩ := ok.ord
  have hal : H al1 = none := new_none A.I.hok kt.new
  have k : ∀ {b : Addr} {o : Obj}, Z.V1.a < b → (o.cls ≠ .type "list_iterator" ∨ FrO o) → s.heap.get? b = some o → s'.heap.get? b = some o := fun {b o} l sol e => keptG kt (fun m => absurd (Nat.lt_trans (Nat.lt_trans (ok.o1.low b m) w1) l) (Nat.lt_irrefl _)) (fun m => absurd (Nat.lt_trans (ok.o1.rlt m).2 l) (Nat.lt_irrefl _)) (by
    cases w : Z.V1.W b with
    | none => rfl
    | some u => exact absurd (Nat.lt_trans (Nat.lt_trans (ok.o1.wlow b u w) w1) l) (Nat.lt_irrefl _)) e sol
  have l2n : Z.V1.a < Z.V2.n0 := w2
  have l2a : Z.V1.a < Z.V2.a := Nat.lt_trans l2n w3
  have lTI : Z.V1.a < Z.TI := Nat.lt_trans l2a w4
  have lC : Z.V1.a < Z.C := Nat.lt_trans lTI (Nat.lt_trans w5 (Nat.lt_trans w6 w7))
  refine ⟨inv_kept1 A.I ok.o1 ok.ab1 ok.s1.2.2.2.2.2.1 ok.s1.1 ok.s1.2.1 kt f.w1 hal (mineV f (Nat.le_of_lt w1) (fun b m => f.freeR b (.inl m)) A.I.hok), as, doz_keep A.d2 A.n2 (kt.gens _ (Ne.symm ok.g)) (fun b o m sol q => ?_), kt.there, ?_, ?_, ?_, hal⟩
  · rcases m with m | m
    · exact k (m ▸ l2a) sol q
    · exact k (Nat.lt_of_lt_of_le l2n (ok.o2.rlt m).1) sol q
  · intro b m
    obtain ⟨o, e, d⟩ := A.n2 b m
    exact ⟨o, k (Nat.lt_of_lt_of_le l2n (ok.o2.rlt m).1) (.inr d) e, d⟩
  · exact k lTI (.inl fun z => absurd (show Value.type "tuple" = Value.type "list_iterator" from z) (by decide)) A.ti
  · obtain ⟨m, o, es, ep, e, r⟩ := A.c
    exact ⟨m, o, es, ep, k lC (.inr (.inl ⟨es, ep, r.1⟩)) e, r⟩
end
end Sq
set_option Elab.async false
set_option linter.all false
set_option maxRecDepth 100000
set_option maxHeartbeats 2000000
/-! zip of two generators that have not begun: its first pair. -/
namespace Sq
open PySem PySem.Spec PyProof.Rows L2 GenW
section
variable {Z : Zv} {X : Cx} {pins : List (Addr × Obj)} {σ : L2.St} {H : Hp} {s s' : Shared} {al al1 : Addr} {ns : List Int} {i1 : Nat}
/-- what the readings know behind the first's first turn -/
theorem young_upd (f : Z.Hf H) {xs : List V} : ∀ b u, Z.V1.n0 ≤ b → upd H al (.lst xs) b = some u → ∃ xs, u = .lst xs := fun b u l e => by
  by_cases h : b = al
  · rw [h, upd_same] at e
    cases e
    exact ⟨_, rfl⟩
  · rw [upd_ne h] at e
    exact f.young b u l e
/-- all that lies there is no new list -/
theorem mid_ne (A : Z.Mid X pins σ H al1 i1 s) (hz : ∃ o, s.heap.get? Z.z = some o) (hTO : ∃ o, s.heap.get? Z.TO = some o) (n : s.heap.get? al = none) : ∀ b ∈ [Z.V1.n0, Z.V1.a, Z.V2.n0, Z.V2.a, Z.TI, Z.TO, Z.z, Z.C], b ≠ al := fun b hb => by
  obtain ⟨o1, e1, _⟩ := A.n1 _ (.inl rfl)
  obtain ⟨o2, e2, _⟩ := A.n2 _ (.inl rfl)
  obtain ⟨oz, ez⟩ := hz
  obtain ⟨oT, eT⟩ := hTO
  obtain ⟨_, oC, _, _, eC, _⟩ := A.c
  obtain ⟨oa, _, _, ea, _⟩ := A.a1.gen
  obtain ⟨ob, _, _, eb, _⟩ := A.d2.gen
  simp only [List.mem_cons, List.not_mem_nil, or_false] at hb
  rcases hb with z | z | z | z | z | z | z | z <;> subst z
  · exact new_ne n e1
  · exact new_ne n ea
  · exact new_ne n e2
  · exact new_ne n eb
  · exact new_ne n A.ti
  · exact new_ne n eT
  · exact new_ne n ez
  · exact new_ne n eC
theorem at_ne (A : Z.At X pins σ H s) (hz : ∃ o, s.heap.get? Z.z = some o) (hTO : ∃ o, s.heap.get? Z.TO = some o) (n : s.heap.get? al = none) : ∀ b ∈ [Z.V1.n0, Z.V1.a, Z.V2.n0, Z.V2.a, Z.TI, Z.TO, Z.z, Z.C], b ≠ al := fun b hb => by
  obtain ⟨o1, e1, _⟩ := A.n1 _ (.inl rfl)
  obtain ⟨o2, e2, _⟩ := A.n2 _ (.inl rfl)
  obtain ⟨oz, ez⟩ := hz
  obtain ⟨oT, eT⟩ := hTO
  obtain ⟨_, oC, _, _, eC, _⟩ := A.c
  obtain ⟨oa, _, _, ea, _⟩ := A.d1.gen
  obtain ⟨ob, _, _, eb, _⟩ := A.d2.gen
  simp only [List.mem_cons, List.not_mem_nil, or_false] at hb
  rcases hb with z | z | z | z | z | z | z | z <;> subst z
  · exact new_ne n e1
  · exact new_ne n ea
  · exact new_ne n e2
  · exact new_ne n eb
  · exact new_ne n A.ti
  · exact new_ne n eT
  · exact new_ne n ez
  · exact new_ne n eC
theorem mid_neR (A : Z.Mid X pins σ H al1 i1 s) (n : s.heap.get? al = none) : ∀ b, Z.V1.reg b ∨ Z.V2.reg b → b ≠ al := fun b hb => by
  rcases hb with m | m
  · obtain ⟨o, e, _⟩ := A.n1 b m
    exact new_ne n e
  · obtain ⟨o, e, _⟩ := A.n2 b m
    exact new_ne n e
theorem at_neR (A : Z.At X pins σ H s) (n : s.heap.get? al = none) : ∀ b, Z.V1.reg b ∨ Z.V2.reg b → b ≠ al := fun b hb => by
  rcases hb with m | m
  · obtain ⟨o, e, _⟩ := A.n1 b m
    exact new_ne n e
  · obtain ⟨o, e, _⟩ := A.n2 b m
    exact new_ne n e
theorem mid_touch {h' : Heap} {t' : Nat} (f : Z.Hf H) (ok : Z.Ok X pins) (A : Z.Mid X pins σ H al1 i1 s) (nal : ∀ b ∈ [Z.V1.n0, Z.V1.a, Z.V2.n0, Z.V2.a, Z.TI, Z.TO, Z.z, Z.C], b ≠ al1) (solT : Solid s.heap Z.TO) (k : ∀ c o, c ≠ Z.TO → s.heap.get? c = some o → h'.get? c = some o) : Z.Mid X pins σ H al1 i1 { s with heap := h', toks := t' } := by
  obtain ⟨w1, w2, w3, w4, w5, w6, w7⟩ := ok.ord
  have lo : ∀ {c : Addr} {o : Obj}, c < Z.TO → s.heap.get? c = some o → h'.get? c = some o := fun {c o} l e => k c o (Nat.ne_of_lt l) e
  have g2a : Z.V2.a < Z.TO := Nat.lt_trans w4 w5
  have g2n : Z.V2.n0 < Z.TO := Nat.lt_trans w3 g2a
  have g1a : Z.V1.a < Z.TO := Nat.lt_trans w2 g2n
  have g1n : Z.V1.n0 < Z.TO := Nat.lt_trans w1 g1a
  refine ⟨A.I.turnedL (t' := t') (ch := [Z.TO]) (fun c o hb q => k c o (fun z => hb (by simp [z])) q) (fun b hb => ?_), A.a1.keep rfl fun c o m q => ?_, A.d2.keep rfl fun c o m q => ?_, ?_, ?_, lo w5 A.ti, ?_, A.new⟩
  · have e : b = Z.TO := by simpa using hb
    refine fp_bigV ok (e ▸ g1n) ?_
    rw [e, upd_ne (nal _ (by simp))]
    exact f.free _ (by simp)
  · rcases m with m | m | ⟨_, j, it⟩
    · exact lo (m ▸ g1a) q
    · exact lo (Nat.lt_trans (ok.o1.rlt m).2 g1a) q
    · refine k c o (fun z => ?_) q
      obtain ⟨o1, e1, no⟩ := solT
      obtain ⟨o', e', c', d'⟩ := it
      rw [z, e1] at e'
      cases e'
      rcases no with no | no
      · exact no c'
      · exact iter_not_fr ⟨_, e1, c', d'⟩ e1 no
  · rcases m with m | m
    · exact lo (m ▸ g2a) q
    · exact lo (Nat.lt_trans (ok.o2.rlt m).2 g2a) q
  · intro b m
    obtain ⟨o, e, d⟩ := A.n1 b m
    exact ⟨o, lo (Nat.lt_trans (ok.o1.rlt m).2 g1a) e, d⟩
  · intro b m
    obtain ⟨o, e, d⟩ := A.n2 b m
    exact ⟨o, lo (Nat.lt_trans (ok.o2.rlt m).2 g2a) e, d⟩
  · obtain ⟨m, o, es, ep, e, r⟩ := A.c
    exact ⟨m, o, es, ep, k _ _ (Nat.ne_of_gt (Nat.lt_trans w6 w7)) e, r⟩
theorem sub_upd {W : Hp} {u : HO} (sub : ∀ b v, W b = some v → H b = some v) (n : H al = none) : ∀ b v, W b = some v → upd H al u b = some v := fun b v e => by
  have q := sub b v e
  rw [upd_ne (ne_of_none q n)]
  exact q
/-- both lists stand -/
theorem zat_of (f : Z.Hf H) (ok : Z.Ok X pins) (A : Z.Mid X pins σ H al1 i1 s) (nal : ∀ b ∈ [Z.V1.n0, Z.V1.a, Z.V2.n0, Z.V2.a, Z.TI, Z.TO, Z.z, Z.C], b ≠ al1) (nalR : ∀ b, Z.V1.reg b ∨ Z.V2.reg b → b ≠ al1) (hz : ∃ o, s.heap.get? Z.z = some o) (hTO : ∃ o, s.heap.get? Z.TO = some o) {al2 : Addr} {j : Nat} (ok1 : (Z.V1.x al1 Z.ns1 Z.tot Z.val1).Ok) (ok2 : (Z.V2.x al2 Z.ns2 Z.tot Z.val2).Ok)
    (kt : Kept1 Z.V2 al2 Z.ns2 s s') (as : Asleep (Z.V2.x al2 Z.ns2 Z.tot Z.val2) j s') : (Z.zx al1 al2).Ok X pins ∧ (Z.zx al1 al2).Hf (upd (upd H al1 (.lst (Z.ns1.map V.int))) al2 (.lst (Z.ns2.map V.int))) ∧ (Z.zx al1 al2).At X pins σ (upd (upd H al1 (.lst (Z.ns1.map V.int))) al2 (.lst (Z.ns2.map V.int))) i1 j s' := by
  obtain ⟨w1, w2, w3, w4, w5, w6, w7⟩ := ok.ord
  have hal2 : upd H al1 (.lst (Z.ns1.map V.int)) al2 = none := new_none A.I.hok kt.new
  have ne12 : al1 ≠ al2 := ne_of_none (upd_same (H := H)) hal2
  have nal2 := mid_ne A hz hTO kt.new
  have nal2R := mid_neR A kt.new
  have lo1 : ∀ {b : Addr}, b ∈ frs Z.V2.outer → b < Z.V1.n0 := fun {b} m => by
    have e : Z.V2.outer = Z.V1.outer := ok.s2.2.2.2.2.2.1.trans ok.s1.2.2.2.2.2.1.symm
    rw [e] at m
    exact ok.o1.low b m
  have nf : ∀ {b : Addr}, Z.V1.n0 ≤ b → b ∉ frs Z.V2.outer := fun {b} l m => absurd (lo1 m) (Nat.not_lt_of_le l)
  have nw : ∀ {b : Addr}, H b = none → Z.V2.W b = none := fun {b} h => by
    cases w : Z.V2.W b with
    | none => rfl
    | some u =>
      rw [f.w2 b u w] at h
      cases h
  have k : ∀ {b : Addr} {o : Obj}, b ∈ [Z.V1.n0, Z.V1.a, Z.V2.n0, Z.V2.a, Z.TI, Z.TO, Z.z, Z.C] → Z.V1.n0 ≤ b → ¬ Z.V2.reg b → (o.cls ≠ .type "list_iterator" ∨ FrO o) → s.heap.get? b = some o → s'.heap.get? b = some o := fun {b o} m l nn sol e => keptG kt (nf l) nn (nw (f.free b m)) e sol
  have kR : ∀ {b : Addr} {o : Obj}, Z.V1.reg b → s.heap.get? b = some o → s'.heap.get? b = some o := fun {b o} m e => by
    obtain ⟨o', e', d⟩ := A.n1 b m
    have eo := e'
    rw [e] at eo
    cases eo
    exact keptG kt (nf (ok.o1.rlt m).1) (fun m2 => absurd (Nat.lt_trans (ok.o1.rlt m).2 (Nat.lt_of_lt_of_le w2 (ok.o2.rlt m2).1)) (Nat.lt_irrefl _)) (nw (f.freeR b (.inl m))) e (.inr d)
  have nr : ∀ {b : Addr}, Z.V2.a ≤ b → ¬ Z.V2.reg b := fun {b} l m => absurd (ok.o2.rlt m).2 (Nat.not_lt_of_le l)
  have l1a := Nat.le_of_lt w1
  have l2n := Nat.lt_trans w1 w2
  have lTI := Nat.lt_trans l2n (Nat.lt_trans w3 w4)
  have lC := Nat.lt_trans lTI (Nat.lt_trans w5 (Nat.lt_trans w6 w7))
  have C2 : Z.V2.n0 < Z.C := Nat.lt_trans w3 (Nat.lt_trans w4 (Nat.lt_trans w5 (Nat.lt_trans w6 w7)))
  have I2 : Inv X pins σ (upd (upd H al1 (.lst (Z.ns1.map V.int))) al2 (.lst (Z.ns2.map V.int))) s' := by
    refine inv_kept1 A.I ok.o2 ok.ab2 ok.s2.2.2.2.2.2.1 ok.s2.1 ok.s2.2.1 kt (sub_upd f.w2 A.new) hal2 fun b m => ?_
    rcases m with m | ⟨m, j, it⟩
    · rw [upd_ne (nalR b (.inr m))]
      exact f.freeR b (.inr m)
    · cases e : upd H al1 (.lst (Z.ns1.map V.int)) b with
      | none => rfl
      | some u =>
        obtain ⟨xs, rfl⟩ := young_upd f b u (Nat.le_of_lt (Nat.lt_trans l2n (Nat.lt_trans w3 m))) e
        exact absurd it (lst_not_iter A.I.hok e)
  refine ⟨⟨ok1, ok2, ok.ab1, ok.ab2, ok.s1, ok.s2, ok.g, ok.fs, ok.q1, ne12, ok.q2, ok.q3, ok.q4, ok.q5⟩, ⟨?_, upd_same, fun b u l e => ?_, fun b hb => ?_, fun b hb => ?_⟩, ⟨I2, A.a1.keep (kt.gens _ ok.g) fun c o m q => ?_, as, ?_, kt.there, ?_, ?_⟩⟩
  · exact (upd_ne ne12).trans upd_same
  · by_cases h : b = al2
    · rw [h, upd_same] at e
      cases e
      exact ⟨_, rfl⟩
    · rw [upd_ne h] at e
      exact young_upd f b u l e
  · rw [upd_ne (nal2R b hb), upd_ne (nalR b hb)]
    exact f.freeR b hb
  · rw [upd_ne (nal2 b hb), upd_ne (nal b hb)]
    exact f.free b hb
  · rcases m with m | m | ⟨lt, j, it⟩
    · obtain ⟨o', nm, qn, e', r⟩ := A.a1.gen
      have eo := e'
      rw [← m, q] at eo
      cases eo
      rw [m] at q ⊢
      exact k (by simp) l1a (fun m2 => absurd (Nat.lt_of_lt_of_le w2 (ok.o2.rlt m2).1) (Nat.lt_irrefl _)) (.inl (by rw [r.1]; decide)) q
    · exact kR m q
    · have lt : Z.V1.a < c := lt
      refine kt.keep c o q (nf (Nat.le_of_lt (Nat.lt_trans w1 lt))) (fun m => ?_) (nw ?_)
      · rcases m with m | ⟨_, j', it'⟩
        · obtain ⟨o', e', d⟩ := A.n2 c m
          exact iter_not_fr it e' d
        · obtain ⟨o1, e1, c1, d1⟩ := it
          obtain ⟨o2, e2, c2, d2⟩ := it'
          rw [e1] at e2
          cases e2
          rw [d1] at d2
          have z : al1 = al2 := by
            injection d2 with d2
            have := congrArg (fun a : Array Value => a[0]?) d2
            simpa using this
          exact ne12 z
      · cases e : H c with
        | none => rfl
        | some u =>
          obtain ⟨xs, rfl⟩ := f.young c u (Nat.le_of_lt (Nat.lt_trans w1 lt)) e
          exact absurd it (lst_not_iter A.I.hok (show upd H al1 _ c = _ from (upd_ne (ne_of_none e A.new)).trans e))
  · intro b m
    obtain ⟨o, e, d⟩ := A.n1 b m
    exact ⟨o, kR m e, d⟩
  · exact k (by simp) (Nat.le_of_lt lTI) (nr (Nat.le_of_lt w4)) (.inl fun z => absurd (show Value.type "tuple" = Value.type "list_iterator" from z) (by decide)) A.ti
  · obtain ⟨m, o, es, ep, e, r⟩ := A.c
    exact ⟨m, o, es, ep, k (by simp) (Nat.le_of_lt lC) (nr (Nat.le_of_lt (Nat.lt_trans w4 (Nat.lt_trans w5 (Nat.lt_trans w6 w7))))) (.inr (.inl ⟨es, ep, r.1⟩)) e, r⟩
end
end Sq
set_option Elab.async false
set_option linter.all false
set_option maxRecDepth 100000
set_option maxHeartbeats 2000000
/-! zip of two generators that have not begun: its first pair. -/
namespace Sq
open PySem PySem.Spec PyProof.Rows L2 GenW
section
variable {Z : Zv} {X : Cx} {pins : List (Addr × Obj)} {σ : L2.St} {H : Hp} {s s' : Shared}
theorem pair_first (f : Z.Hf H) (ok : Z.Ok X pins) (A : Z.At X pins σ H s) (hcalm : X.A.handled = none) (hroom : X.A.depth < recursionLimit) (hz : IsZip s.heap Z.z Z.TI Z.TO .none) (hTO : ∃ a b, IsPair s.heap Z.TO a b) {E : Value → Shared → Prop} {Q : Option Value → Shared → Prop}
    (item : ∀ (al1 al2 : Addr) (j : Nat) (T : Addr) (t1 t2 : Tok) (s' : Shared), Z.tot = j + 1 → (Z.zx al1 al2).Ok X pins → (Z.zx al1 al2).Hf (upd (upd H al1 (.lst (Z.ns1.map V.int))) al2 (.lst (Z.ns2.map V.int))) → (Z.zx al1 al2).At X pins σ (upd (upd H al1 (.lst (Z.ns1.map V.int))) al2 (.lst (Z.ns2.map V.int))) j j s' → H al1 = none → H al2 = none → IsZip s'.heap Z.z Z.TI Z.TO (rawInt T) → (∃ a b, IsPair s'.heap Z.TO a b) → IsPair s'.heap T (.int (Z.val1 0) t1) (.int (Z.val2 0) t2) → Z.C < T → Q (some (.ref T)) s')
    (done : Z.tot = 0 → ∀ al s', H al = none → al ≠ Z.C → Inv X pins σ (upd H al (.lst (Z.ns1.map V.int))) s' → (∃ m, s'.heap.Ns Z.C m) → Q none s') : wpAny (model X.prog X.w) X.A (pyNext (.ref Z.z)) Q E s := by
  obtain ⟨w1, w2, w3, w4, w5, w6, w7⟩ := ok.ord
  obtain ⟨a0, b0, hTO⟩ := hTO
  have nzt : Z.TO ≠ Z.z := Nat.ne_of_lt w6
  have lTO2 : Z.V2.a < Z.TO := Nat.lt_trans w4 w5
  have lTO : Z.V1.a < Z.TO := Nat.lt_trans w2 (Nat.lt_trans w3 lTO2)
  have cz : ∀ {f0 : Value}, ({ cls := .type "zip", dict := none, data := .fields #[f0, .bool false, .bool false, .ref Z.TI, .ref Z.TO], slots := #[] } : Obj).cls ≠ .type "list_iterator" := fun {f0} q => absurd (show Value.type "zip" = Value.type "list_iterator" from q) (by decide)
  have cT : ∀ {x y : Value}, ({ cls := .type "tuple", data := .seq #[x, y] } : Obj).cls ≠ .type "list_iterator" := fun {x y} q => absurd (show Value.type "tuple" = Value.type "list_iterator" from q) (by decide)
  have k1 : ∀ {s s' : Shared} {al : Addr} {b : Addr} {o : Obj}, Kept1 Z.V1 al Z.ns1 s s' → Z.V1.a < b → s.heap.get? b = some o → (o.cls ≠ .type "list_iterator" ∨ FrO o) → s'.heap.get? b = some o := fun {s s' al b o} kt l e sol => keptG kt (fun m => absurd (Nat.lt_trans (Nat.lt_trans (ok.o1.low b m) w1) l) (Nat.lt_irrefl _)) (fun m => absurd (Nat.lt_trans (ok.o1.rlt m).2 l) (Nat.lt_irrefl _)) (by
    cases w : Z.V1.W b with
    | none => rfl
    | some u => exact absurd (Nat.lt_trans (Nat.lt_trans (ok.o1.wlow b u w) w1) l) (Nat.lt_irrefl _)) e sol
  have k2 : ∀ {s s' : Shared} {al : Addr} {b : Addr} {o : Obj}, Kept1 Z.V2 al Z.ns2 s s' → Z.V2.a < b → s.heap.get? b = some o → (o.cls ≠ .type "list_iterator" ∨ FrO o) → s'.heap.get? b = some o := fun {s s' al b o} kt l e sol => keptG kt (fun m => absurd (Nat.lt_trans (Nat.lt_trans (ok.o2.low b m) w3) l) (Nat.lt_irrefl _)) (fun m => absurd (Nat.lt_trans (ok.o2.rlt m).2 l) (Nat.lt_irrefl _)) (by
    cases w : Z.V2.W b with
    | none => rfl
    | some u => exact absurd (Nat.lt_trans (Nat.lt_trans (ok.o2.wlow b u w) w3) l) (Nat.lt_irrefl _)) e sol
  refine next_zip (a := a0) (b := b0) (Nat.ne_of_gt w6) hz A.ti fun h₁ hz₁ sb₁ => ?_
  have A1 : Z.At X pins σ H { s with heap := h₁ } := atv_touch (t' := s.toks) f ok A fun c o h1 _ e => (sb₁.2 c h1).trans e
  have hTO₁ : IsPair h₁ Z.TO a0 b0 := (sb₁.2 _ nzt).trans hTO
  have hw := first_turn (A := X.A.in1) ok.o1 A1.d1 (e0v_of ok.o1 A1.I ok.s1 f.w1) ok.s1.2.2.2.2.2.2.1 hcalm hroom
  rw [ok.s1.1, ok.s1.2.1] at hw
  refine wpAny_mono hw (fun x s₂ hh => ?_) fun x s₂ hh => ?_
  · obtain ⟨al1, m, i, hn, hi, ⟨t, ev⟩, okx1, kt, as⟩ := hh
    obtain rfl : i = 0 := by omega
    have nal := at_ne (al := al1) A1 ⟨_, hz₁⟩ ⟨_, hTO₁⟩ kt.new
    have nalR := at_neR (al := al1) A1 kt.new
    have A2 := mid_of f ok A1 kt as
    have hz₂ : IsZip s₂.heap Z.z Z.TI Z.TO .ellipsis := k1 kt (Nat.lt_trans lTO w6) hz₁ (.inl cz)
    have hTO₂ : IsPair s₂.heap Z.TO a0 b0 := k1 kt lTO hTO₁ (.inl cT)
    refine ⟨hz₂, hTO₂, fun h₃ sb₃ hTO₃ => ?_⟩
    have A3 : Z.Mid X pins σ H al1 m { s₂ with heap := h₃ } := mid_touch (t' := s₂.toks) f ok A2 nal ⟨_, hTO₂, .inl cT⟩ fun c o h1 e => (sb₃.2 c h1).trans e
    have hz₃ : IsZip h₃ Z.z Z.TI Z.TO .ellipsis := (sb₃.2 _ (Ne.symm nzt)).trans hz₂
    have hw2 := first_turn (A := X.A.in1) ok.o2 A3.d2 (e0v_of ok.o2 A3.I ok.s2 (sub_upd f.w2 A3.new)) ok.s2.2.2.2.2.2.2.1 hcalm hroom
    rw [ok.s2.1, ok.s2.2.1] at hw2
    refine wpAny_mono hw2 (fun y s₄ hh => ?_) fun y s₄ hh => ?_
    · obtain ⟨al2, m2, i', hn2, hi2, ⟨t2, ev2⟩, okx2, kt2, as2⟩ := hh
      obtain rfl : i' = 0 := by omega
      obtain rfl : m = m2 := by omega
      obtain ⟨okz, hf, A4⟩ := zat_of f ok A3 nal nalR ⟨_, hz₃⟩ ⟨_, hTO₃⟩ okx1 okx2 kt2 as2
      have hz₄ : IsZip s₄.heap Z.z Z.TI Z.TO .ellipsis := k2 kt2 (Nat.lt_trans lTO2 w6) hz₃ (.inl cz)
      have hTO₄ : IsPair s₄.heap Z.TO x b0 := k2 kt2 lTO2 hTO₃ (.inl cT)
      refine ⟨hz₄, hTO₄, fun h' hz' hTO' hT' k' => ?_⟩
      have A5 : (Z.zx al1 al2).At X pins σ _ m m { s₄ with heap := h' } := at_touch (t' := s₄.toks) hf okz A4 ⟨_, hz₄, .inl cz⟩ ⟨_, hTO₄, .inl cT⟩ k'
      subst ev ev2
      obtain ⟨mm, hns⟩ := A4.c
      have h2n := new_none A3.I.hok kt2.new
      have n21 : al2 ≠ al1 := fun z => by
        rw [z, upd_same] at h2n
        cases h2n
      have h2n' := h2n
      rw [upd_ne n21] at h2n'
      exact item al1 al2 m s₄.heap.objs.size t t2 _ hn okz hf A5 A3.new h2n' hz' ⟨_, _, hTO'⟩ hT' hns.lt
    · exact absurd hh.1 (by omega)
  · obtain ⟨hn0, b, o, al, eb, ho, hc, kt⟩ := hh
    subst eb
    have nal := at_ne (al := al) A1 ⟨_, hz₁⟩ ⟨_, hTO₁⟩ kt.new
    have hal := new_none A1.I.hok kt.new
    have hz₂ : IsZip s₂.heap Z.z Z.TI Z.TO .ellipsis := k1 kt (Nat.lt_trans lTO w6) hz₁ (.inl cz)
    have I2 : Inv X pins σ (upd H al (.lst (Z.ns1.map V.int))) s₂ := inv_kept1 A1.I ok.o1 ok.ab1 ok.s1.2.2.2.2.2.1 ok.s1.1 ok.s1.2.1 kt f.w1 hal (mineV f (Nat.le_of_lt w1) (fun b m => f.freeR b (.inl m)) A1.I.hok)
    have nb : b ≠ Z.z := fun q => by
      rw [q, show s₂.heap.get? Z.z = _ from hz₂] at ho
      cases ho
      exact absurd (show Value.type "zip" = Value.type "StopIteration" from hc) (by decide)
    refine ⟨hz₂, fun h sb => ⟨b, o, rfl, (sb.2 b nb).trans ho, hc, done hn0 al _ hal (Ne.symm (nal _ (by simp))) ?_ ?_⟩⟩
    · refine I2.turnedL (t' := s₂.toks) (ch := [Z.z]) (fun c o hb q => (sb.2 c fun z => hb (by simp [z])).trans q) fun c hc => ?_
      have e : c = Z.z := by simpa using hc
      refine fp_bigV ok (e ▸ Nat.lt_trans w1 (Nat.lt_trans lTO w6)) ?_
      rw [e, upd_ne (nal _ (by simp))]
      exact f.free _ (by simp)
    · obtain ⟨mm, o', es, ep, e, r⟩ := A1.c
      exact ⟨mm, o', es, ep, (sb.2 _ (Nat.ne_of_gt w7)).trans (k1 kt (Nat.lt_trans lTO (Nat.lt_trans w6 w7)) e (.inr (.inl ⟨es, ep, r.1⟩))), r⟩
end
end Sq
set_option Elab.async false
set_option linter.all false
set_option maxRecDepth 100000
set_option maxHeartbeats 2000000
/-! A comprehension over zip of two generators that have not begun: its loop. -/
namespace Sq
open PySem PySem.Spec PyProof.Rows L2 GenW
section
variable {Z : Zx} {X : Cx} {pins : List (Addr × Obj)} {σ : L2.St} {H H' : Hp} {i1 i2 : Nat} {s s' : Shared}
theorem at_move {ch : List Addr} (ok : Z.Ok X pins) (A : Z.At X pins σ H i1 i2 s) (I' : Inv X pins σ H' s') (hg : s'.gens = s.gens) (hc : ∃ m, s'.heap.Ns Z.C m) (k : ∀ c o, c ∉ ch → s.heap.get? c = some o → s'.heap.get? c = some o)
    (big : ∀ b ∈ ch, Z.TI < b) (sol : ∀ b ∈ ch, Solid s.heap b) : Z.At X pins σ H' i1 i2 s' := by
  obtain ⟨w1, w2, w3, w4, w5, w6, w7⟩ := ok.ord
  have lo : ∀ {c : Addr} {o : Obj}, c ≤ Z.TI → s.heap.get? c = some o → s'.heap.get? c = some o := fun {c o} l e => k c o (fun m => absurd (big c m) (Nat.not_lt_of_le l)) e
  have noit : ∀ {c al : Addr} {j : Nat} {o : Obj}, s.heap.IsListIter c al j → s.heap.get? c = some o → s'.heap.get? c = some o := fun {c al j o} i e => k c o (fun m => by
    obtain ⟨o1, e1, no⟩ := sol c m
    obtain ⟨o', e', c', d'⟩ := i
    rw [e1] at e'
    cases e'
    rcases no with no | no
    · exact no c'
    · exact iter_not_fr ⟨_, e1, c', d'⟩ e1 no) e
  have g2a : Z.G2.a ≤ Z.TI := Nat.le_of_lt w4
  have g2n : Z.G2.n0 ≤ Z.TI := Nat.le_of_lt (Nat.lt_trans w3 w4)
  have g1a : Z.G1.a ≤ Z.TI := Nat.le_of_lt (Nat.lt_trans w2 (Nat.lt_trans w3 w4))
  have g1n : Z.G1.n0 ≤ Z.TI := Nat.le_of_lt (Nat.lt_trans w1 (Nat.lt_trans w2 (Nat.lt_trans w3 w4)))
  refine ⟨I', A.a1.keep (by rw [hg]) fun c o m q => ?_, A.a2.keep (by rw [hg]) fun c o m q => ?_, ?_, ?_, lo (Nat.le_refl _) A.ti, hc⟩
  · rcases m with m | m | ⟨_, j, it⟩
    · exact lo (m ▸ g1a) q
    · exact lo (Nat.le_trans (Nat.le_of_lt (ok.o1.rlt m).2) g1a) q
    · exact noit it q
  · rcases m with m | m | ⟨_, j, it⟩
    · exact lo (m ▸ g2a) q
    · exact lo (Nat.le_trans (Nat.le_of_lt (ok.o2.rlt m).2) g2a) q
    · exact noit it q
  · intro b m
    obtain ⟨o, e, d⟩ := A.n1 b m
    exact ⟨o, lo (Nat.le_trans (Nat.le_of_lt (ok.o1.rlt m).2) g1a) e, d⟩
  · intro b m
    obtain ⟨o, e, d⟩ := A.n2 b m
    exact ⟨o, lo (Nat.le_trans (Nat.le_of_lt (ok.o2.rlt m).2) g2a) e, d⟩
theorem solid_ns {h : Heap} {b : Addr} {m : Str → Option Value} (n : h.Ns b m) : Solid h b := by
  obtain ⟨o, es, ep, e, r⟩ := n
  exact ⟨o, e, .inr (.inl ⟨es, ep, r.1⟩)⟩
def prs (v1 v2 : Nat → Int) (k : Nat) : List (List Int) := (List.range k).map fun i => [v1 i, v2 i]
theorem fp_big {b : Addr} (ok : Z.Ok X pins) (l : Z.G1.n0 < b) (hf : H b = none) : FpOk X pins H b :=
  ⟨hf, Nat.ne_of_gt (Nat.lt_trans ok.ab1.loc l), fun m => absurd (Nat.lt_trans (ok.fs b m) l) (Nat.lt_irrefl _), .inr (Nat.le_of_lt (Nat.lt_of_le_of_lt ok.ab1.young l)), fun x c e z => absurd z (Nat.ne_of_lt (Nat.lt_trans (ok.ab1.cell x c e) l)), fun p hp z => absurd z (Nat.ne_of_lt (Nat.lt_trans (ok.ab1.pin p hp) l))⟩
/-- the loop's state -/
def Zx.Lp (Z : Zx) (X : Cx) (pins : List (Addr × Obj)) (σ : L2.St) (Hs : Hp) (D : Addr) (tot n : Nat) (s : Shared) : Prop := ∃ (H : Hp) (rows : List Addr), Z.Hf H ∧ Z.At X pins σ H n n s ∧ n ≤ tot ∧ IsZip s.heap Z.z Z.TI Z.TO .none ∧ (∃ a b, IsPair s.heap Z.TO a b) ∧
  H D = some (.lst (rows.map V.ref)) ∧ rows.length = tot - n ∧ RowsAt H rows (prs Z.G1.val Z.G2.val (tot - n)) ∧ ∀ b o, Hs b = some o → b ≠ D → H b = some o
theorem zip_item {x1 x2 : Str} {p1 p2 p3 p4 lp tpos : Pos} {kk tot : Nat} {ce : Env} {E : Value → Shared → Prop} {Back : Shared → Prop} {Hs : Hp} {D : Addr} (ok : Z.Ok X pins) (hcalm : X.A.handled = none) (few : tot < 1000000) (zD : Z.z < D) (DC : D < Z.C)
    (eC : ce.locals = Z.C) (hk : ce.scope.kind = .function) (k1 : ce.kindOf x1 = some .local) (k2 : ce.kindOf x2 = some .local) (ne : x1 ≠ x2) (d1 : (x1 == ("__debug__" : Str)) = false) (d2 : (x2 == ("__debug__" : Str)) = false)
    {rows : List Addr} {j1 v1 v2 : Nat} {T : Addr} {t1 t2 : Tok} {s2 : Shared} (f : Z.Hf H) (A2 : Z.At X pins σ H j1 j1 s2) (le : j1 + 1 ≤ tot) (hz2 : IsZip s2.heap Z.z Z.TI Z.TO (rawInt T)) (hTO2 : ∃ a b, IsPair s2.heap Z.TO a b) (hT : IsPair s2.heap T (.int (Z.G1.val v1) t1) (.int (Z.G2.val v2) t2)) (lT : Z.C < T)
    (ev1 : v1 = tot - (j1 + 1)) (ev2 : v2 = tot - (j1 + 1)) (hD : H D = some (.lst (rows.map V.ref))) (hrl : rows.length = tot - (j1 + 1)) (hrows : RowsAt H rows (prs Z.G1.val Z.G2.val (tot - (j1 + 1)))) (keep : ∀ b o, Hs b = some o → b ≠ D → H b = some o) (alD1 : Z.G1.al ≠ D) (alD2 : Z.G2.al ≠ D)
    (back : ∀ s, Z.Lp X pins σ Hs D tot j1 s → Back s) :
    wpAny (model X.prog X.w) X.A (letOwnedTupleGo (.Tuple [.Name x1 p3, .Name x2 p4] kk tpos) (.ref Z.z) (.ref T)) (fun _ s₁' => wpAny (model X.prog X.w) X.A (assign (.Tuple [.Name x1 p3, .Name x2 p4] kk tpos) ce (.ref T)) (fun _ s₂ =>
      wpAny (model X.prog X.w) X.A (forIn ([] : List Expr) true fun c r => if r = true then do let ok ← isTrue c ce (eval c ce); pure (ForInStep.yield ok) else pure (ForInStep.yield r)) (fun ok s₃ =>
        if ok = true then wpAny (model X.prog X.w) X.A (eval (.List [.Name x1 p1, .Name x2 p2] lp) ce) (fun x s₄ =>
          wpAny (model X.prog X.w) X.A (call (.builtin "list.append") [.ref D, x]) (fun _ s₅ => Back s₅) E s₄) E s₃
        else Back s₃) E s₂) E s₁') E s2 := by
  obtain ⟨w1, w2, w3, w4, w5, w6, w7⟩ := ok.ord
  have TIz : Z.TI < Z.z := Nat.lt_trans w5 w6
  have nz : IsZip s2.heap Z.z Z.TI Z.TO (rawInt T) := hz2
  have solz : Solid s2.heap Z.z := ⟨_, nz, .inl fun q => absurd (show Value.type "zip" = Value.type "list_iterator" from q) (by decide)⟩
  show wpAny _ _ (letOwnedTupleGo (.Tuple [.Name x1 p3, .Name x2 p4] kk tpos) (.ref Z.z) (.ref T)) _ _ s2
  refine wpAny_letOwnedTupleGo_zip hz2 fun h3 hz3 sb3 => ?_
  have fpz := fp_zip f ok
  have kz : ∀ c o, c ∉ [Z.z] → s2.heap.get? c = some o → h3.get? c = some o := fun c o m e => (sb3.2 c fun z => m (by simp [z])).trans e
  obtain ⟨mC, hC⟩ := A2.c
  have hC3 : h3.Ns Z.C mC := hC.extBut (fun c o m e => (sb3.2 c m).trans e) (Nat.ne_of_gt w7)
  have I3 : Inv X pins σ H { s2 with heap := h3 } := A2.I.turnedL (t' := s2.toks) (ch := [Z.z]) kz fun b hb => fpz b (by
    have : b = Z.z := by simpa using hb
    simp [this])
  have A3 : Z.At X pins σ H j1 j1 { s2 with heap := h3 } := at_move (ch := [Z.z]) ok A2 I3 rfl ⟨mC, hC3⟩ kz (fun b hb => by
    have : b = Z.z := by simpa using hb
    rw [this]
    exact TIz) fun b hb => by
    have : b = Z.z := by simpa using hb
    rw [this]
    exact solz
  have hT3 : IsPair h3 T (.int (Z.G1.val v1) t1) (.int (Z.G2.val v2) t2) := (sb3.2 T (Nat.ne_of_gt (Nat.lt_trans w7 lT))).trans hT
  obtain ⟨ta, tb, hTO⟩ := hTO2
  have hTO3 : IsPair h3 Z.TO ta tb := (sb3.2 _ (Nat.ne_of_lt w6)).trans hTO
  refine assign_Tuple_tuple hcalm (items := #[.int (Z.G1.val v1) t1, .int (Z.G2.val v2) t2]) ⟨_, hT3, rfl, _, rfl⟩ rfl rfl fun h4 hx4 => ?_
  have k4 : ∀ c o, h3.get? c = some o → h4.get? c = some o := fun c o e => hx4 c o (Nat.ne_of_lt (Heap.lt_size e)) e
  have hC4 : h4.Ns Z.C mC := hC3.extBut (fun c o _ e => k4 c o e) (Nat.ne_of_lt (Nat.lt_succ_self _))
  have cls : (ce.scope.kind == .class || (ce.scope.kind == .module && ce.locals != ce.globals)) = false := by
    rw [hk]
    rfl
  show wpAny _ _ (assignInOrder [assign (.Name x1 p3) ce, assign (.Name x2 p4) ce] [.int (Z.G1.val v1) t1, .int (Z.G2.val v2) t2]) _ _ _
  refine assignInOrder_cons (wpAny_assign_Name (wpAny_storeName_local k1 (by rw [eC]; exact hC4) (fun h5 hC5 sb5 => ?_) cls))
  refine assignInOrder_cons (wpAny_assign_Name (wpAny_storeName_local k2 hC5 (fun h6 hC6 sb6 => ?_) cls))
  refine assignInOrder_nil (wpAny_tests_nil ?_)
  rw [if_pos rfl]
  have m2 : (fun x => if x = x2 then some (Value.int (Z.G2.val v2) t2) else if x = x1 then some (Value.int (Z.G1.val v1) t1) else mC x) x1 = some (Value.int (Z.G1.val v1) t1) := by
    show (if x1 = x2 then _ else if x1 = x1 then _ else _) = _
    rw [if_neg ne, if_pos rfl]
  have m3 : (fun x => if x = x2 then some (Value.int (Z.G2.val v2) t2) else if x = x1 then some (Value.int (Z.G1.val v1) t1) else mC x) x2 = some (Value.int (Z.G2.val v2) t2) := if_pos rfl
  refine wpAny_List_spliced ?_
  show wpAny _ _ (spliced ((false, eval (.Name x1 p1) ce) :: backTo lp (starEach [.Name x2 p2] ce))) _ _ _
  refine Calls.spliced_cons (wpAny_Name (wpAny_loadName_local hk k1 hC6 m2 ?_) d1)
  show wpAny _ _ (spliced ((false, eval (.Name x2 p2) ce) :: backTo lp (starEach [] ce))) _ _ _
  refine Calls.spliced_cons (wpAny_Name (wpAny_loadName_local hk k2 hC6 m3 ?_) d2)
  refine Calls.spliced_nil ⟨by show 2 ≤ sizeLine; rw [sizeLine_eq]; decide, ?_⟩
  rw [eC] at sb5 sb6 hC6
  have k6 : ∀ c o, c ∉ [Z.z, Z.C] → s2.heap.get? c = some o → h6.get? c = some o := fun c o m e => (sb6.2 c fun z => m (by simp [z])).trans ((sb5.2 c fun z => m (by simp [z])).trans (k4 c o (kz c o (fun z => m (by simp at z; simp [z])) e)))
  have nC : Z.G1.n0 < Z.C := Nat.lt_trans w1 (Nat.lt_trans w2 (Nat.lt_trans w3 (Nat.lt_trans w4 (Nat.lt_trans TIz w7))))
  have I6 : Inv X pins σ H { s2 with heap := h6, toks := s2.toks + 1 + 1 } := A2.I.turnedL (t' := s2.toks + 1 + 1) (ch := [Z.z, Z.C]) k6 fun b hb => by
    have e : b = Z.z ∨ b = Z.C := by simpa using hb
    rcases e with e | e
    · exact fpz b (by simp [e])
    · exact fp_big ok (e ▸ nC) (f.free b (by simp [e]))
  obtain ⟨r, er⟩ : ∃ r, r = h6.objs.size := ⟨_, rfl⟩
  have rC : Z.C < r := by
    rw [er]
    exact hC6.lt
  have rf : H r = none := by
    rw [er]
    exact I6.hok.fresh (Nat.le_refl _)
  have I7 : Inv X pins σ (upd H r (.lst [.int (Z.G1.val v1), .int (Z.G2.val v2)])) { s2 with heap := h6.push { cls := .type "list", data := .seq [Value.int (Z.G1.val v1) t1, Value.int (Z.G2.val v2) t2].toArray }, toks := s2.toks + 1 + 1 } := by
    rw [er]
    exact I6.laid (t' := s2.toks + 1 + 1) (fun b u e => Heap.get?_push_of_some _ e) (Nat.le_refl _) ⟨by show 2 ≤ sizeLine; rw [sizeLine_eq]; decide, [.int (Z.G1.val v1) t1, .int (Z.G2.val v2) t2], 0, .cons ⟨_, rfl⟩ (.cons ⟨_, rfl⟩ .nil), Heap.get?_push_size _ rfl⟩
  have nDr : D ≠ r := ne_of_none hD rf
  have hD7 : (upd H r (.lst [.int (Z.G1.val v1), .int (Z.G2.val v2)])) D = some (.lst (rows.map V.ref)) := by
    rw [upd_ne nDr]
    exact hD
  obtain ⟨hz', its, nn, ri, e⟩ := I7.hok D _ hD7
  have hl := ri.length
  rw [List.length_map] at hl
  refine append_at (hsz := by rw [List.size_toArray, ← hl, sizeLine_eq]; omega) e fun h8 sb8 ho8 => ?_
  have zD' : Z.z ≠ D := Nat.ne_of_lt zD
  have k8 : ∀ c o, c ∉ [Z.z, Z.C, D] → s2.heap.get? c = some o → h8.get? c = some o := fun c o m e => (sb8.2 c fun z => m (by simp [z])).trans (Heap.get?_push_of_some _ (k6 c o (fun z => m (by
    simp at z ⊢
    rcases z with z | z
    · exact .inl z
    · exact .inr (.inl z))) e))
  have h68 : ∀ c o, c ≠ D → h6.get? c = some o → h8.get? c = some o := fun c o m e => (sb8.2 c m).trans (Heap.get?_push_of_some _ e)
  have zC : Z.z ≠ Z.C := Nat.ne_of_lt w7
  have TOC : Z.TO ≠ Z.C := Nat.ne_of_lt (Nat.lt_trans w6 w7)
  have h36 : ∀ c o, c ≠ Z.C → h3.get? c = some o → h6.get? c = some o := fun c o m e => (sb6.2 c m).trans ((sb5.2 c m).trans (k4 c o e))
  obtain ⟨w', hw'⟩ : ∃ w', w' = upd (upd H r (.lst [.int (Z.G1.val v1), .int (Z.G2.val v2)])) D (.lst (rows.map V.ref ++ [.ref r])) := ⟨_, rfl⟩
  have vr : Vals [V.ref r] [Value.ref r] := .cons rfl .nil
  have I8 := I7.write (x := D) (e := D) (o := .lst (rows.map V.ref ++ [.ref r])) (h' := h8) (t' := s2.toks + 1 + 1) (by rw [hD7]; trivial) (.inl rfl) (fun b u hb q => (sb8.2 b hb).trans q) ⟨_, ho8⟩ ⟨by rw [List.length_append, List.length_map, sizeLine_eq]; show rows.length + 1 ≤ _; omega, its ++ [Value.ref r], nn + 1, ri.append vr, by
    rw [ho8, ← er]
    simp⟩
  rw [← hw'] at I8
  have low : ∀ {b : Addr}, b ≤ Z.z → b ≠ D ∧ b ≠ r := fun {b} l => ⟨Nat.ne_of_lt (Nat.lt_of_le_of_lt l zD), Nat.ne_of_lt (Nat.lt_of_le_of_lt l (Nat.lt_trans w7 rC))⟩
  have hw : ∀ {b : Addr}, b ≠ D → b ≠ r → w' b = H b := fun {b} h1 h2 => by
    rw [hw', upd_ne h1, upd_ne h2]
  have hwD : w' D = some (.lst ((rows ++ [r]).map V.ref)) := by
    rw [hw', upd_same, List.map_append]
    rfl
  have hf' : Z.Hf w' := ⟨(hw alD1 (ne_of_none f.l1 rf)).trans f.l1, (hw alD2 (ne_of_none f.l2 rf)).trans f.l2, fun b u l e => by
    by_cases h1 : b = D
    · rw [h1, hwD] at e
      cases e
      exact ⟨_, rfl⟩
    · by_cases h2 : b = r
      · rw [h2, hw', upd_ne (Ne.symm nDr), upd_same] at e
        cases e
        exact ⟨_, rfl⟩
      · rw [hw h1 h2] at e
        exact f.young b u l e, fun b hb => by
    have hH := f.freeR b hb
    refine (hw (fun q => ?_) (fun q => ?_)).trans hH
    · rw [q, hD] at hH
      cases hH
    · have lb : b < Z.C := by
        have c1 := Nat.lt_trans TIz w7
        rcases hb with m | m
        · exact Nat.lt_trans (ok.o1.rlt m).2 (Nat.lt_trans w2 (Nat.lt_trans w3 (Nat.lt_trans w4 c1)))
        · exact Nat.lt_trans (ok.o2.rlt m).2 (Nat.lt_trans w4 c1)
      exact absurd (Nat.lt_trans lb rC) (by rw [q]; exact Nat.lt_irrefl _), fun b hb => by
    have hH := f.free b hb
    refine (hw (fun q => ?_) (fun q => ?_)).trans hH
    · rw [q, hD] at hH
      cases hH
    · have lb : b ≤ Z.C := by
        simp at hb
        have c1 := Nat.le_of_lt (Nat.lt_trans TIz w7)
        have c2 := Nat.le_trans (Nat.le_of_lt w4) c1
        have c3 := Nat.le_trans (Nat.le_of_lt w3) c2
        have c4 := Nat.le_trans (Nat.le_of_lt w2) c3
        have c5 := Nat.le_trans (Nat.le_of_lt w1) c4
        rcases hb with z | z | z | z | z | z | z | z <;> rw [z]
        · exact c5
        · exact c4
        · exact c3
        · exact c2
        · exact c1
        · exact Nat.le_of_lt (Nat.lt_trans w6 w7)
        · exact Nat.le_of_lt w7
        · exact Nat.le_refl _
      exact absurd (Nat.lt_of_le_of_lt lb rC) (by rw [q]; exact Nat.lt_irrefl _)⟩
  have offD : D ∉ rows := fun m => by
    obtain ⟨q, hq⟩ := List.mem_iff_getElem?.mp m
    have lq : q < (prs Z.G1.val Z.G2.val (tot - (j1 + 1))).length := by
      rw [← hrows.len]
      exact (List.getElem?_eq_some_iff.mp hq).1
    obtain ⟨a', ha', hac⟩ := hrows.get (List.getElem?_eq_getElem lq)
    rw [hq] at ha'
    cases ha'
    rw [hD] at hac
    have e2 := HO.lst.inj (Option.some.inj hac)
    obtain ⟨kq, _, ek⟩ := List.mem_map.mp (List.getElem_mem lq)
    rw [← ek] at e2
    cases rows with
    | nil => cases m
    | cons x xs => cases e2
  refine back _ ⟨w', rows ++ [r], hf', ?_, by omega, ?_, ?_, hwD, by rw [List.length_append, hrl]; show _ + 1 = _; omega, ?_, fun b o q nb => ?_⟩
  · refine at_move (ch := [Z.z, Z.C, D]) ok A2 I8 rfl ⟨_, hC6.extBut (b := D) (fun c o m e => h68 c o m e) (Nat.ne_of_gt DC)⟩ k8 (fun b hb => ?_) fun b hb => ?_
    · have e : b = Z.z ∨ b = Z.C ∨ b = D := by simpa using hb
      rcases e with e | e | e <;> rw [e]
      · exact TIz
      · exact Nat.lt_trans TIz w7
      · exact Nat.lt_trans TIz zD
    · have e : b = Z.z ∨ b = Z.C ∨ b = D := by simpa using hb
      rcases e with e | e | e <;> rw [e]
      · exact solz
      · exact solid_ns hC
      · obtain ⟨_, its', nn', _, hl'⟩ := A2.I.hok D _ hD
        exact ⟨_, hl', .inl fun q => absurd (show Value.type "list" = Value.type "list_iterator" from q) (by decide)⟩
  · exact h68 _ _ zD' (h36 _ _ zC hz3)
  · exact ⟨_, _, h68 _ _ (Nat.ne_of_lt (Nat.lt_trans w6 zD)) (h36 _ _ TOC hTO3)⟩
  · have ev : tot - j1 = (tot - (j1 + 1)) + 1 := by omega
    rw [ev]
    unfold prs
    rw [List.range_succ, List.map_append]
    have v12 : v1 = tot - (j1 + 1) ∧ v2 = tot - (j1 + 1) := by omega
    have sm : RowsAt w' rows (prs Z.G1.val Z.G2.val (tot - (j1 + 1))) := by
      rw [hw']
      exact RowsAt.upd (RowsAt.same (same_new rf) hrows) offD
    refine RowsAt.app sm ⟨?_, trivial⟩
    rw [hw', upd_ne (Ne.symm nDr), upd_same, v12.1, v12.2]
    rfl
  · rw [hw nb (ne_of_none (keep b o q nb) rf)]
    exact keep b o q nb
/-- it has not begun -/
def Zv.St (Z : Zv) (X : Cx) (pins : List (Addr × Obj)) (σ : L2.St) (Hs : Hp) (D : Addr) (s : Shared) : Prop := ∃ H : Hp, Z.Hf H ∧ Z.At X pins σ H s ∧ IsZip s.heap Z.z Z.TI Z.TO .none ∧ (∃ a b, IsPair s.heap Z.TO a b) ∧ H D = some (.lst []) ∧ ∀ b o, Hs b = some o → b ≠ D → H b = some o
theorem zip_loopV {Z : Zv} {x1 x2 : Str} {p1 p2 p3 p4 lp tpos pos : Pos} {kk : Nat} {iter : Expr} {scope : Scope} {ce : Env} {R : Result → Shared → Prop} {Hs : Hp} {D : Addr} (ok : Z.Ok X pins) (hcalm : X.A.handled = none) (hroom : X.A.depth < recursionLimit) (few : Z.tot < 1000000) (zD : Z.z < D) (DC : D < Z.C)
    (eC : ce.locals = Z.C) (hk : ce.scope.kind = .function) (k1 : ce.kindOf x1 = some .local) (k2 : ce.kindOf x2 = some .local) (ne : x1 ≠ x2) (d1 : (x1 == ("__debug__" : Str)) = false) (d2 : (x2 == ("__debug__" : Str)) = false)
    (fin : ∀ s' H rows, Inv X pins σ H s' → (∃ m, s'.heap.Ns Z.C m) → H D = some (.lst (rows.map V.ref)) → RowsAt H rows (prs Z.val1 Z.val2 Z.tot) → (∀ b o, Hs b = some o → b ≠ D → H b = some o) → H Z.C = none → R (.ok .next) s') (h : Z.St X pins σ Hs D s) :
    codeAny (model X.prog X.w) X.A (.compLoop (.ListComp (.List [.Name x1 p1, .Name x2 p2] lp) [⟨.Tuple [.Name x1 p3, .Name x2 p4] kk tpos, iter, [], 0⟩] scope pos) 0 (.ref Z.z) (.ref D) ce) R s := by
  refine compLoop_any (fun n s' => (n = Z.tot ∧ Z.St X pins σ Hs D s') ∨ ∃ al1 al2, (Z.zx al1 al2).Ok X pins ∧ al1 ≠ D ∧ al2 ≠ D ∧ (Z.zx al1 al2).Lp X pins σ Hs D Z.tot n s') (fun n s1 h1 => ?_) Z.tot (.inl ⟨rfl, h⟩)
  rcases h1 with ⟨en, H, f, A, hz, hTO, hD, keep⟩ | ⟨al1, al2, okz, n1, n2, H, rows, f, A, le, hz, hTO, hD, hrl, hrows, keep⟩
  · subst en
    refine pair_first f ok A hcalm hroom hz hTO (fun al1 al2 j T t1 t2 s2 ej okz f2 A2 h1n h2n hz2 hTO2 hT lT => ?_) fun e0 al s2 haln aC I2 hns => ?_
    · have nD1 : D ≠ al1 := ne_of_none hD h1n
      have nD2 : D ≠ al2 := ne_of_none hD h2n
      have z0 : Z.tot - (j + 1) = 0 := by omega
      refine zip_item (rows := []) (tot := Z.tot) (v1 := 0) (v2 := 0) okz hcalm few zD DC eC hk k1 k2 ne d1 d2 f2 A2 (by omega) hz2 hTO2 hT lT z0.symm z0.symm ?_ (by rw [z0]; rfl) ?_ (fun b o q nb => ?_) (Ne.symm nD1) (Ne.symm nD2) fun s' l => ⟨j, by omega, .inr ⟨al1, al2, okz, Ne.symm nD1, Ne.symm nD2, l⟩⟩
      · rw [upd_ne nD2, upd_ne nD1]
        exact hD
      · rw [z0]
        trivial
      · have q2 := keep b o q nb
        rw [upd_ne (ne_of_none q2 h2n), upd_ne (ne_of_none q2 h1n)]
        exact q2
    · have nD : D ≠ al := ne_of_none hD haln
      refine fin s2 _ [] I2 hns ((upd_ne nD).trans hD) (by rw [e0]; trivial) (fun b o q nb => ?_) ((upd_ne (Ne.symm aC)).trans (f.free _ (by simp)))
      have q2 := keep b o q nb
      rw [upd_ne (ne_of_none q2 haln)]
      exact q2
  · refine pair_next f okz A hcalm hroom hz hTO (fun j1 j2 T v1 v2 t1 t2 s2 eq1 eq2 ev1 ev2 A2 hz2 hTO2 hT lT => ?_) (fun e0 s2 I2 hns => ?_) rfl
    · subst eq1
      obtain rfl : j1 = j2 := by omega
      exact zip_item okz hcalm few zD DC eC hk k1 k2 ne d1 d2 f A2 le hz2 hTO2 hT lT ev1 ev2 hD hrl hrows keep n1 n2 fun s' l => ⟨j1, Nat.lt_succ_self _, .inr ⟨al1, al2, okz, n1, n2, l⟩⟩
    · subst e0
      exact fin s2 H rows I2 hns hD (by rw [Nat.sub_zero] at hrows; exact hrows) keep (f.free _ (by simp))
end
end Sq
set_option Elab.async false
set_option linter.all false
set_option maxRecDepth 100000
set_option maxHeartbeats 2000000
/-! Two calls of a generator def whose arguments are names, within zip. -/
namespace Sq
open PySem PySem.Spec PyProof.Rows L2 GenW
def KindW (W : Hp) : Prop := ∀ b u, W b = some u → (∃ φ, u = .ext φ) ∨ ∃ xs, u = .lst xs
def SubW (W H : Hp) : Prop := ∀ b u, W b = some u → H b = some u
/-- arguments that are names -/
structure NA (X : Cx) (es : List Expr) (t : TA) : Prop where
  run : ∀ (pos : Pos) (pins : List (Addr × Obj)) (s : Shared) (σ : L2.St) (H : Hp) (Q : List V → Hp → Prop), Inv X pins σ H s → t σ H Q → wpAny (model X.prog X.w) X.A (spliced (backTo pos (starEach es X.env))) (fun us s' => s' = s ∧ ∃ vs, Vals vs us ∧ Q vs H) X.xe s
section
variable {X : Cx}
theorem na_nil : NA X [] tNil := ⟨fun pos pins s σ H Q I h => Calls.spliced_nil ⟨rfl, [], .nil, h⟩⟩
theorem na_cons {i : Nat} {x : Str} {pos : Pos} {es : List Expr} {t : TA} (hN : X.N[i]? = some x) (hv : Vis X.env.scope x) (hr : NA X es t) (hd : (x == ("__debug__" : Str)) = false := by decide) (hcd : (x == ("__classdict__" : Str)) = false := by decide)
    (hs : starEach (.Name x pos :: es) X.env = (false, eval (.Name x pos) X.env) :: starEach es X.env := by rfl) : NA X (.Name x pos :: es) (tCons (tVar i) t) := by
  refine ⟨fun pos' pins s σ H Q I h => ?_⟩
  rw [hs]
  show wpAny _ _ (spliced ((false, eval (.Name x pos) X.env) :: backTo pos' (starEach es X.env))) _ _ s
  obtain ⟨v, e, q⟩ := h
  refine Calls.spliced_cons (raw_name hN hv I e (fun u r => ?_) hd hcd)
  refine thn (hr.run pos' pins s σ H _ I q) fun us s2 hh => ?_
  obtain ⟨e2, vs, r2, q2⟩ := hh
  exact ⟨e2, v :: vs, .cons r r2, q2⟩
end
structure DfV (P : Program) (w : World) (K : PySem.W.Frag) (mg : Str → Option Value) (base : Heap) (k : Nat) (x : Str) (ps : List Str) (sp : SpV) : Prop where
  ex : ∃ f fd, GFnV P w K mg base k f fd ps sp ∧ mg x = some (.ref f) ∧ PySem.W.keepIn K (.ref f) = true ∧ Binds K fd ps []
section
variable {X : Cx} {pins : List (Addr × Obj)} {σ : L2.St} {H : Hp} {s : Shared} {k : Nat} {ps : List Str} {sp : SpV} {x : Str} {p cpos : Pos} {e : Expr} {es : List Expr} {t : TA}
theorem env0_W {W : Hp} (wk : KindW W) (I : Inv X pins σ H s) (hw : SubW W H) : Env0 X.prog X.w X.K X.mg X.base X.A X.stack s W := by
  have e := I.env0
  have ne : ∀ {b : Addr}, H b = none → W b = none := fun {b} h => by
    cases w : W b with
    | none => rfl
    | some u =>
      rw [hw b u w] at h
      cases h
  exact ⟨e.frames, e.mod, fun b o q => ⟨(e.bs b o q).1, ne (e.bs b o q).2⟩, e.bsz, e.funs, fun b hb => ne (e.frf b hb), hok_sub wk hw e.hok, e.bare⟩
/-- what a call asks -/
def AskF (sp : SpV) (t : TA) (σ : L2.St) (H : Hp) (Q : Hp → List Int → Nat → (Nat → Int) → Hp → Prop) : Prop := t σ H fun vs H1 => ∃ W ns tot val, sp vs W ns tot val ∧ KindW W ∧ SubW W H1 ∧ Q W ns tot val H1
theorem v_callF (D : DfV X.prog X.w X.K X.mg X.base k x ps sp) (hr : Room k X.A) (hg : Gl X x) (ha : NA X (e :: es) t) {Q : Hp → List Int → Nat → (Nat → Int) → Hp → Prop} (I : Inv X pins σ H s) (h : AskF sp t σ H Q) (hdb : (x == ("__debug__" : Str)) = false := by decide)
    (he : starEach (e :: es) X.env = (false, eval e X.env) :: starEach es X.env := by rfl) (hpl : (backTo cpos (starEach es X.env)).any (·.1) = false := by rfl) :
    wpAny (model X.prog X.w) X.A (eval (.Call (.Name x p) (e :: es) [] cpos) X.env) (fun u s2 => ∃ (W : Hp) (ns : List Int) (tot : Nat) (val : Nat → Int), VMade X.prog X.w X.K X.mg X.base k X.stack s W ns tot val u s2 ∧ Inv X pins σ H s2 ∧ KindW W ∧ SubW W H ∧ Q W ns tot val H) X.xe s := by
  obtain ⟨f, fd, F, hm, hk, hb⟩ := D.ex
  refine wpAny_Call_Name_kw (ld_glob I hg hm ?_ hdb)
  refine PySem.W.callWith_K (h₀ := X.base) I.ok.mod.kin hk (thn (ha.run cpos pins s σ H _ I h) fun us s1 hh => ?_) he hpl
  obtain ⟨rfl, vs, r1, W, ns, tot, val, q, wk, sub, hQ⟩ := hh
  refine ⟨I.kIn, ?_⟩
  have few : us.length = ps.length := by rw [← r1.length]; exact F.len _ _ _ _ _ q
  have bind := hb s1 us I.kIn (by rw [List.append_nil]; exact few)
  rw [List.append_nil] at bind
  refine wpAny_call (codeAny_mono (F.run X.A X.stack s1 ⟨us, []⟩ us vs W ns tot val hr (env0_W wk I sub) bind r1 q) fun r s2 hq => ?_)
  match r, hq with
  | .ok (.ret u), hq =>
    have hq' := hq
    obtain ⟨a, code, sc, eu, la, isG, eg, eo, lim, keep, n0, bare, sz, wake⟩ := hq'
    exact ⟨W, ns, tot, val, hq, I.call' (ch := []) eo (Un.kept keep) (I.hok.kept keep) (by rw [eg]; exact AllBare.push I.bare bare) fun b z => by simp at z, wk, sub, hQ⟩
end
theorem fresh_dozing {P : Program} {w : World} {K : PySem.W.Frag} {mg : Str → Option Value} {base : Heap} {k : Nat} {outer : List Env} {s s' s3 : Shared} {W : Hp} {ns : List Int} {tot : Nat} {val : Nat → Int} {u : Value} {A : Around} (M : VMade P w K mg base k outer s W ns tot val u s') (room : Room k A) (fr : A.frames = some outer)
    (hg : s3.gens[s.gens.size]? = s'.gens[s.gens.size]?) (kp : ∀ b o, s'.heap.get? b = some o → s3.heap.get? b = some o) :
    ∃ G : Vg, G.Ok ∧ u = .ref G.a ∧ (G.P = P ∧ G.w = w ∧ G.K = K ∧ G.mg = mg ∧ G.base = base ∧ G.outer = outer ∧ G.A = A ∧ G.A.frames = some outer) ∧ G.n0 = s.heap.objs.size ∧ G.g = s.gens.size ∧ G.W = W ∧ s'.heap.objs.size = G.a + 1 ∧ Dozing G ns tot val s3 ∧ ∀ b, G.reg b → ∃ o, s3.heap.get? b = some o ∧ FrO o := by
  obtain ⟨a, code, sc, eu, la, isG, eg, eo, lim, keep, n0, bare, sz, wake⟩ := M
  obtain ⟨G, ok, e0, e1, e2, e3, e4, e5, e6, e7, e8, e9, e10, e11, seg⟩ := wake A room fr
  have g3 : s3.heap.IsGen a s.gens.size := by
    obtain ⟨o, nm, qn, ho, r⟩ := isG
    exact ⟨o, nm, qn, kp _ _ ho, r⟩
  refine ⟨G, ok, by rw [e9]; exact eu, ⟨e1, e2, e3, e4, e5, e7, e6, by rw [e6]; exact fr⟩, e8, e10, e11, by rw [e9]; exact sz, ⟨by rw [e9, e10]; exact g3, code, ?_, fun s2 e own2 => ?_⟩, fun b m => ?_⟩
  · rw [e10, hg, eg]
    exact Array.getElem?_push_size ..
  · refine seg s2 e fun b o m q => own2 b o ?_ (kp b o q)
    rcases m with m | m
    · exact .inl (m.trans e9.symm)
    · exact .inr m
  · have m' : Reg s.heap.objs.size sc b := by
      have h : Reg G.n0 G.scope b := m
      rwa [e8, e0] at h
    obtain ⟨o, ho, d⟩ := n0 b m'
    exact ⟨o, kp _ _ ho, d⟩
section
variable {X : Cx} {pins : List (Addr × Obj)} {σ : L2.St} {H : Hp} {s1 s1' s2' s3 : Shared} {W1 W2 : Hp} {k : Nat} {ns1 ns2 : List Int} {tot : Nat} {val1 val2 : Nat → Int} {u1 u2 : Value}
theorem zv_start (I1 : Inv X pins σ H s1) (M1 : VMade X.prog X.w X.K X.mg X.base k X.stack s1 W1 ns1 tot val1 u1 s1') (I2 : Inv X pins σ H s1')
    (M2 : VMade X.prog X.w X.K X.mg X.base k X.stack s1' W2 ns2 tot val2 u2 s2') (g3 : s3.gens = s2'.gens) (k3 : ∀ b o, s2'.heap.get? b = some o → s3.heap.get? b = some o) (room : Room k X.A.in1.in1) (fr : X.A.in1.in1.frames = some X.stack) :
    ∃ G1 G2 : Vg, u1 = .ref G1.a ∧ u2 = .ref G2.a ∧ G1.n0 = s1.heap.objs.size ∧ G2.n0 = s1'.heap.objs.size ∧ s2'.heap.objs.size = G2.a + 1 ∧ G1.W = W1 ∧ G2.W = W2 ∧ G1.a < G2.n0 ∧ (∀ TI TO z C, G2.a < TI → TI < TO → TO < z → z < C → Zv.Ok ⟨G1, G2, ns1, ns2, tot, val1, val2, TI, TO, z, C⟩ X pins) ∧ Dozing G1 ns1 tot val1 s3 ∧ Dozing G2 ns2 tot val2 s3 ∧
      (∀ b, G1.reg b → ∃ o, s3.heap.get? b = some o ∧ FrO o) ∧ (∀ b, G2.reg b → ∃ o, s3.heap.get? b = some o ∧ FrO o) ∧ G1.Ok ∧ G2.Ok := by
  obtain ⟨a1, c1, sc1, eu1, la1, isG1, eg1, _, _, keep1, _, _, sz1, _⟩ := id M1
  obtain ⟨a2, c2, sc2, eu2, la2, isG2, eg2, _, _, keep2, _, _, sz2, _⟩ := id M2
  have lg : s1.gens.size < s1'.gens.size := by
    rw [eg1, Array.size_push]
    exact Nat.lt_succ_self _
  obtain ⟨G1, o1, e1, st1, n1, gg1, l1, z1, as1, d1⟩ := fresh_dozing (s3 := s3) M1 room fr (by
    rw [g3, eg2, Array.getElem?_push_lt lg]
    exact (Array.getElem?_eq_getElem lg).symm) fun b o q => k3 _ _ (keep2 _ _ q)
  obtain ⟨G2, o2, e2, st2, n2, gg2, l2, z2, as2, d2⟩ := fresh_dozing (s3 := s3) M2 room fr (by rw [g3]) k3
  have lt12 : G1.a < G2.n0 := by
    rw [n2, z1]
    exact Nat.lt_succ_self _
  refine ⟨G1, G2, e1, e2, n1, n2, z2, l1, l2, lt12, fun TI TO z C q2 q3 q4 q5 => ⟨o1, o2, by rw [n1]; exact above_of I1 (Nat.le_refl _), by rw [n2]; exact above_of I2 (Nat.le_refl _), st1, st2, by rw [gg1, gg2]; exact Nat.ne_of_lt lg, fun b hb => ?_, lt12, q2, q3, q4, q5⟩, as1, as2, d1, d2, o1, o2⟩
  obtain ⟨_, o, ho, _⟩ := I1.ok.funs.mem hb
  rw [n1]
  exact Nat.lt_of_lt_of_le (Heap.lt_size ho) I1.sz
end
end Sq
set_option Elab.async false
set_option linter.all false
set_option maxRecDepth 100000
set_option maxHeartbeats 2000000
/-! [[a, b] for a, b in zip(g(..), g(..))], g a generator def that makes its list itself. -/
namespace Sq
open PySem PySem.Spec PyProof.Rows L2 GenW
section
variable {X : Cx} {k : Nat} {sp : SpV} {ps : List Str} {x : Str} {pz cz pos : Pos} {p1 p2 c1 c2 : Pos} {ea1 ea2 : Expr} {es1 es2 : List Expr} {t1 t2 : TA} {pins : List (Addr × Obj)} {σ : L2.St} {H : Hp} {s : Shared}
theorem fzip_calls (D : DfV X.prog X.w X.K X.mg X.base k x ps sp) (hr : Room k X.A) (hr2 : Room k X.A.in1.in1) (fr : X.A.in1.in1.frames = some X.stack) (hg : Gl X x) (ha1 : NA X (ea1 :: es1) t1) (ha2 : NA X (ea2 :: es2) t2)
    (hgz : Gl X "zip") (hmz : X.mg "zip" = none) (I : Inv X pins σ H s) {R : Nat → (Nat → Int) → (Nat → Int) → Hp → Prop}
    (h : AskF sp t1 σ H fun W1 ns1 tot val1 H1 => AskF sp t2 σ H1 fun W2 ns2 tot2 val2 H2 => tot2 = tot ∧ R tot val1 val2 H2) (hdb : (x == ("__debug__" : Str)) = false := by decide)
    (he1 : starEach (ea1 :: es1) X.env = (false, eval ea1 X.env) :: starEach es1 X.env := by rfl) (hpl1 : (backTo c1 (starEach es1 X.env)).any (·.1) = false := by rfl) (he2 : starEach (ea2 :: es2) X.env = (false, eval ea2 X.env) :: starEach es2 X.env := by rfl) (hpl2 : (backTo c2 (starEach es2 X.env)).any (·.1) = false := by rfl) :
    wpAny (model X.prog X.w) X.A (eval (.Call (.Name "zip" pz) [.Call (.Name x p1) (ea1 :: es1) [] c1, .Call (.Name x p2) (ea2 :: es2) [] c2] [] cz) X.env) (fun u s3 => ∃ (G1 G2 : Vg) (ns1 ns2 : List Int) (tot : Nat) (val1 val2 : Nat → Int) (z0 : Addr), u = .ref (z0 + 2) ∧ s3.heap.objs.size = z0 + 3 ∧ IsZip s3.heap (z0 + 2) z0 (z0 + 1) .none ∧ IsPair s3.heap z0 (.ref G1.a) (.ref G2.a) ∧ IsPair s3.heap (z0 + 1) .none .none ∧ Inv X pins σ H s3 ∧ (∀ b, z0 ≤ b → H b = none) ∧
      (∀ C, z0 + 2 < C → Zv.Ok ⟨G1, G2, ns1, ns2, tot, val1, val2, z0, z0 + 1, z0 + 2, C⟩ X pins) ∧ SubW G1.W H ∧ SubW G2.W H ∧ (∀ b, G1.n0 ≤ b → H b = none) ∧ R tot val1 val2 H ∧
      Dozing G1 ns1 tot val1 s3 ∧ Dozing G2 ns2 tot val2 s3 ∧ (∀ b, G1.reg b → ∃ o, s3.heap.get? b = some o ∧ FrO o) ∧ (∀ b, G2.reg b → ∃ o, s3.heap.get? b = some o ∧ FrO o)) X.xe s := by
  refine Call_ (ld_blt I hgz hmz boot_zip (PyProof.Rows.callWith_type1 ?_ (by rfl) (by rfl)))
  show wpAny _ _ (spliced ((false, eval (.Call (.Name x p1) (ea1 :: es1) [] c1) X.env) :: backTo cz (starEach [.Call (.Name x p2) (ea2 :: es2) [] c2] X.env))) _ _ s
  refine Calls.spliced_cons (thn (v_callF D hr hg ha1 I h hdb he1 hpl1) fun u1 s1' hh => ?_)
  obtain ⟨W1, ns1, tot, val1, M1, I1', wk1, sub1, h2⟩ := hh
  obtain ⟨a1, code1, sc1, eu1, la1, isG1, eg1, eo1, lim1, keep1, _, bare1, sz1, wake1⟩ := id M1
  obtain ⟨og, nm, qn, hog, rg⟩ := id isG1
  show wpAny _ _ (spliced ((false, eval (.Call (.Name x p2) (ea2 :: es2) [] c2) X.env) :: backTo cz (starEach [] X.env))) _ _ s1'
  refine Calls.spliced_cons (thn (v_callF D hr hg ha2 I1' h2 hdb he2 hpl2) fun u2 s2' hh => ?_)
  obtain ⟨W2, ns2, tot2, val2, M2, I2', wk2, sub2, rfl, hR⟩ := hh
  refine Calls.spliced_nil ?_
  obtain ⟨a2, code2, sc2, eu2, la2, isG2, eg2, eo2, lim2, keep2, n02, bare2, sz2, wake2⟩ := id M2
  have isG1' : s2'.heap.IsGen a1 s.gens.size := ⟨og, nm, qn, keep2 _ _ hog, rg⟩
  rw [eu1, eu2]
  refine call_zipG isG1' isG2 fun h' hz hTI hTO hsz k' => ?_
  obtain ⟨G1, G2, q1, q2, n1, n2, z2, l1, l2, lt12, okz, as1, as2, d1, d2, o1, o2⟩ := zv_start (s3 := { s2' with heap := h' }) I M1 I1' M2 rfl k' hr2 fr
  rw [eu1] at q1
  rw [eu2] at q2
  have e1 : a1 = G1.a := by cases q1; rfl
  have e2 : a2 = G2.a := by cases q2; rfl
  have z0 : G2.a < s2'.heap.objs.size := by
    rw [z2]
    exact Nat.lt_succ_self _
  exact ⟨G1, G2, ns1, ns2, tot2, val1, val2, s2'.heap.objs.size, rfl, hsz, hz, by rw [← e1, ← e2]; exact hTI, hTO, I2'.kept (t' := s2'.toks) k', fun b l => I2'.hok.fresh l, fun C hC => okz _ _ _ _ z0 (Nat.lt_succ_self _) (Nat.lt_succ_self _) hC, by rw [l1]; exact sub1, by rw [l2]; exact sub2, fun b l => I.hok.fresh (by rw [← n1]; exact l), hR, as1, as2, d1, d2⟩
end
def tZipF (sp : SpV) (t1 t2 : TA) : TE := fun σ H Q => AskF sp t1 σ H fun W1 ns1 tot val1 H1 => AskF sp t2 σ H1 fun W2 ns2 tot2 val2 H2 => tot2 = tot ∧
  (tot < 1000000 ∧ ∀ Dl rows H3, H2 Dl = none → H3 Dl = some (.lst (rows.map V.ref)) → RowsAt H3 rows (prs val1 val2 tot) → (∀ b o, H2 b = some o → H3 b = some o) → Q (.ref Dl) H3)
section
variable {X : Cx} {k : Nat} {sp : SpV} {ps : List Str} {x : Str} {pz cz pos : Pos} {p1 p2 c1 c2 q1 q2 q3 q4 lp_ tpos : Pos} {ea1 ea2 : Expr} {es1 es2 : List Expr} {t1 t2 : TA} {scope : Scope} {own : List (Str × Nat)} {kk : Nat} {x1 x2 : Str}
theorem pe_zipF (D : DfV X.prog X.w X.K X.mg X.base k x ps sp) (hr1 : Room (k + 1) X.A) (hg : Gl X x) (ha1 : NA X (ea1 :: es1) t1) (ha2 : NA X (ea2 :: es2) t2)
    (hgz : Gl X "zip") (hmz : X.mg "zip" = none) (hc : X.calm = true) (hroom : X.A.depth < recursionLimit) (hN : X.N.Nodup) (okb : BlkOk X.N X.env.scope scope own) (k1 : scope.names.lookup x1 = some .local) (k2 : scope.names.lookup x2 = some .local) (ne : x1 ≠ x2)
    (hs : ∀ v, foldedSetIterable (.Call (.Name "zip" pz) [.Call (.Name x p1) (ea1 :: es1) [] c1, .Call (.Name x p2) (ea2 :: es2) [] c2] [] cz) X.env v = pure v := by intro _; rfl) (d1 : (x1 == ("__debug__" : Str)) = false := by decide) (d2 : (x2 == ("__debug__" : Str)) = false := by decide) (hdb : (x == ("__debug__" : Str)) = false := by decide)
    (he1 : starEach (ea1 :: es1) X.env = (false, eval ea1 X.env) :: starEach es1 X.env := by rfl) (hpl1 : (backTo c1 (starEach es1 X.env)).any (·.1) = false := by rfl) (he2 : starEach (ea2 :: es2) X.env = (false, eval ea2 X.env) :: starEach es2 X.env := by rfl) (hpl2 : (backTo c2 (starEach es2 X.env)).any (·.1) = false := by rfl) :
    PE X (.ListComp (.List [.Name x1 q1, .Name x2 q2] lp_) [⟨.Tuple [.Name x1 q3, .Name x2 q4] kk tpos, (.Call (.Name "zip" pz) [.Call (.Name x p1) (ea1 :: es1) [] c1, .Call (.Name x p2) (ea2 :: es2) [] c2] [] cz), [], 0⟩] scope pos) (tZipF sp t1 t2) := by
  refine ⟨fun pins s σ H Q I h => ?_⟩
  have fr : X.A.in1.in1.frames = some X.stack := I.ok.frames
  have hr : Room k X.A := hr1.mono (by omega)
  have hr2 : Room k X.A.in1.in1 := ⟨hr1.hd, by have := hr1.dp; show X.A.depth + 3 * k + 5 < _; omega, by have := hr1.un; show X.A.units + 1 + 1 + 16 * k + 200 < _; omega⟩
  unfold tZipF at h
  rw [eval_ListComp]
  have hfree : ∀ y ∈ scope.names, y.2 = .free → ∃ c, X.env.cells.lookup y.1 = some c := fun y hy e => by
    rcases okb.free y hy e with k | k
    · exact I.ok.has _ (.inl k)
    · exact I.ok.has _ (.inr k)
  refine wpAny_comprehension_free (use := none) rfl hs (closure_ok hfree) okb.kind (fun y hy e => by rw [okb.uniq y hy, e])
    (thn (fzip_calls D hr hr2 fr hg ha1 ha2 hgz hmz I (R := fun tot val1 val2 H2 => tot < 1000000 ∧ ∀ Dl rows H3, H2 Dl = none → H3 Dl = some (.lst (rows.map V.ref)) → RowsAt H3 rows (prs val1 val2 tot) → (∀ b o, H2 b = some o → H3 b = some o) → Q (.ref Dl) H3) h hdb he1 hpl1 he2 hpl2) fun xv s1 hx => ?_)
  obtain ⟨G1, G2, ns1, ns2, tot, val1, val2, z0, ex, hsz, hz, hTI, hTO, I2, hfr, okz, l1, l2, hyg, ⟨few, nxt⟩, as1, as2, dn1, dn2⟩ := hx
  subst ex
  refine wpAny_pyIter_zip hz ?_
  refine wpAny_newObj_type (newEnv_comp ?_) (by show 0 ≤ sizeLine; decide)
  obtain ⟨s3, h3⟩ : ∃ s3 : Shared, s3 = { s1 with heap := s1.heap.push { cls := .type "list", data := .seq ([] : List Value).toArray } } := ⟨_, rfl⟩
  obtain ⟨Dl, hDl⟩ : ∃ Dl, Dl = s1.heap.objs.size := ⟨_, rfl⟩
  have hDn : H Dl = none := I2.hok.fresh (Nat.le_of_eq hDl.symm)
  have I3 : Inv X pins σ (upd H Dl (.lst [])) s3 := by
    rw [h3, hDl]
    exact I2.laid (t' := s1.toks) (fun b o e => Heap.get?_push_of_some _ e) (Nat.le_refl _) ⟨Nat.zero_le _, [], 0, .nil, Heap.get?_push_size _ rfl⟩
  have k3 : ∀ b o, s1.heap.get? b = some o → s3.heap.get? b = some o := fun b o e => by rw [h3]; exact Heap.get?_push_of_some _ e
  have sz3 : s3.heap.objs.size = Dl + 1 := by rw [h3, hDl]; exact Heap.size_push ..
  have B := block_start (fp := []) I3 okb hN fun b z => absurd z List.not_mem_nil
  obtain ⟨mC, hC, _⟩ := B.loc
  obtain ⟨s4, h4⟩ : ∃ s4 : Shared, s4 = { s3 with heap := pushCells (s3.heap.push { cls := .type "dict", data := .dict #[] }) scope.names } := ⟨_, rfl⟩
  have k4 : ∀ b o, s3.heap.get? b = some o → s4.heap.get? b = some o := fun b o e => by rw [h4]; exact pushCells_keeps _ _ _ _ (Heap.get?_push_of_some _ e)
  have k14 : ∀ b o, s1.heap.get? b = some o → s4.heap.get? b = some o := fun b o e => k4 _ _ (k3 _ _ e)
  have I4 : Inv X pins σ (upd H Dl (.lst [])) s4 := by
    rw [h4]
    exact I3.kept (t' := s3.toks) fun b o e => pushCells_keeps _ _ _ _ (Heap.get?_push_of_some _ e)
  have hC4 : s4.heap.Ns s3.heap.objs.size mC := by
    rw [h4]
    exact hC
  have zD : z0 + 2 < Dl := by rw [hDl, hsz]; exact Nat.lt_succ_self _
  have DC : Dl < s3.heap.objs.size := by rw [sz3]; exact Nat.lt_succ_self _
  have ok := okz s3.heap.objs.size (Nat.lt_trans zD DC)
  have g4 : s4.gens = s1.gens := by rw [h4, h3]
  have hlow : ∀ {b : Addr}, b ≠ Dl → (upd H Dl (.lst [])) b = H b := fun {b} n => upd_ne n
  obtain ⟨w1, w2, w3, w4, w5, w6, w7⟩ := ok.ord
  have w1 : G1.n0 < G1.a := w1
  have w2 : G1.a < G2.n0 := w2
  have w3 : G2.n0 < G2.a := w3
  have w4 : G2.a < z0 := w4
  have z0D : z0 < Dl := Nat.lt_trans (Nat.lt_succ_of_lt (Nat.lt_succ_self _)) zD
  have rl1 : ∀ {b : Addr}, G1.reg b → G1.n0 ≤ b ∧ b < G1.a := fun m => ok.o1.rlt m
  have rl2 : ∀ {b : Addr}, G2.reg b → G2.n0 ≤ b ∧ b < G2.a := fun m => ok.o2.rlt m
  have hf : Zv.Hf ⟨G1, G2, ns1, ns2, tot, val1, val2, z0, z0 + 1, z0 + 2, s3.heap.objs.size⟩ (upd H Dl (.lst [])) := by
    refine ⟨fun b u e => (hlow (ne_of_none (l1 b u e) hDn)).trans (l1 b u e), fun b u e => (hlow (ne_of_none (l2 b u e) hDn)).trans (l2 b u e), fun b u l e => ?_, fun b hb => ?_, fun b hb => ?_⟩
    · by_cases q : b = Dl
      · rw [q, upd_same] at e
        cases e
        exact ⟨_, rfl⟩
      · rw [hlow q, hyg b l] at e
        cases e
    · have both : G1.n0 ≤ b ∧ b < Dl := by
        rcases hb with m | m
        · exact ⟨(rl1 m).1, Nat.lt_trans (rl1 m).2 (Nat.lt_trans w2 (Nat.lt_trans w3 (Nat.lt_trans w4 z0D)))⟩
        · exact ⟨Nat.le_of_lt (Nat.lt_of_lt_of_le (Nat.lt_trans w1 w2) (rl2 m).1), Nat.lt_trans (rl2 m).2 (Nat.lt_trans w4 z0D)⟩
      rw [hlow (Nat.ne_of_lt both.2)]
      exact hyg b both.1
    · have both : H b = none ∧ b ≠ Dl := by
        simp at hb
        rcases hb with e | e | e | e | e | e | e | e <;> rw [e]
        · exact ⟨hyg _ (Nat.le_refl _), Nat.ne_of_lt (Nat.lt_trans w1 (Nat.lt_trans w2 (Nat.lt_trans w3 (Nat.lt_trans w4 z0D))))⟩
        · exact ⟨hyg _ (Nat.le_of_lt w1), Nat.ne_of_lt (Nat.lt_trans w2 (Nat.lt_trans w3 (Nat.lt_trans w4 z0D)))⟩
        · exact ⟨hyg _ (Nat.le_of_lt (Nat.lt_trans w1 w2)), Nat.ne_of_lt (Nat.lt_trans w3 (Nat.lt_trans w4 z0D))⟩
        · exact ⟨hyg _ (Nat.le_of_lt (Nat.lt_trans w1 (Nat.lt_trans w2 w3))), Nat.ne_of_lt (Nat.lt_trans w4 z0D)⟩
        · exact ⟨hfr _ (Nat.le_refl _), Nat.ne_of_lt z0D⟩
        · exact ⟨hfr _ (Nat.le_succ _), Nat.ne_of_lt (Nat.lt_trans (Nat.lt_succ_self _) zD)⟩
        · exact ⟨hfr _ (Nat.le_trans (Nat.le_succ _) (Nat.le_succ _)), Nat.ne_of_lt zD⟩
        · exact ⟨hfr _ (Nat.le_of_lt (Nat.lt_trans z0D DC)), Nat.ne_of_gt DC⟩
      rw [hlow both.2]
      exact both.1
  have lp : Zv.St ⟨G1, G2, ns1, ns2, tot, val1, val2, z0, z0 + 1, z0 + 2, s3.heap.objs.size⟩ X pins σ (upd H Dl (.lst [])) Dl s4 := by
    refine ⟨_, hf, ⟨I4, as1.keep (by rw [g4]) fun b o _ q => k14 b o q, as2.keep (by rw [g4]) fun b o _ q => k14 b o q, ?_, ?_, k14 _ _ hTI, ⟨mC, hC4⟩⟩, k14 _ _ hz, ⟨_, _, k14 _ _ hTO⟩, upd_same, fun b o q _ => q⟩
    · intro b m
      obtain ⟨o, e, d⟩ := dn1 b m
      exact ⟨o, k14 _ _ e, d⟩
    · intro b m
      obtain ⟨o, e, d⟩ := dn2 b m
      exact ⟨o, k14 _ _ e, d⟩
  have nC : G1.n0 < s3.heap.objs.size := Nat.lt_trans w1 (Nat.lt_trans w2 (Nat.lt_trans w3 (Nat.lt_trans w4 (Nat.lt_trans z0D DC))))
  have loop : codeAny (model X.prog X.w) X.A (.compLoop (.ListComp (.List [.Name x1 q1, .Name x2 q2] lp_) [⟨.Tuple [.Name x1 q3, .Name x2 q4] kk tpos, (.Call (.Name "zip" pz) [.Call (.Name x p1) (ea1 :: es1) [] c1, .Call (.Name x p2) (ea2 :: es2) [] c2] [] cz), [], 0⟩] scope pos) 0 (.ref (z0 + 2)) (.ref Dl) (compEnvC scope (cellsFrom (s3.heap.objs.size + 1) scope.names (cloFrom X.env.cells scope.names [])) s3.heap.objs.size X.env))
      (compPost (model X.prog X.w) X.A X.xe none (fun u s' => EP X pins σ Q u s') (.ref Dl) s3.heap.objs.size) s4 := by
    refine zip_loopV (Z := ⟨G1, G2, ns1, ns2, tot, val1, val2, z0, z0 + 1, z0 + 2, s3.heap.objs.size⟩) ok (I4.ok.hd hc) hroom few zD DC rfl okb.kind (lookup_relabel_local k1) (lookup_relabel_local k2) ne d1 d2 (fun s' H' rows I' hns hD' rr kp hCn => ?_) lp
    obtain ⟨m, hn⟩ := hns
    obtain ⟨f0, f1, f2, f3, f4, f5⟩ := fp_bigV ok nC hCn
    refine ⟨m, hn, fun h5 sb5 => ?_⟩
    exact ⟨.ref Dl, H', I'.turned (t' := s'.toks) (fun b o hb q => (sb5.2 b hb).trans q) f0 f1 f3 f4 f5, rfl, nxt Dl rows H' hDn hD' rr fun b o q => kp b o ((hlow (ne_of_none q hDn)).trans q) (ne_of_none q hDn)⟩
  have hz4 : IsZip s4.heap (z0 + 2) z0 (z0 + 1) .none := k14 _ _ hz
  have fin := codeAny_compStart_list loop (wpAny_pyIter_zip hz4 loop)
  subst h4 h3 hDl
  exact fin
end
end Sq
set_option Elab.async false
set_option linter.all false
set_option maxRecDepth 100000
set_option maxHeartbeats 4000000
/-! A generator def that makes a list and yields from it. -/
namespace Sq
open PySem PySem.Spec PyProof.Rows L2 GenW
section
variable {G : Xg}
theorem segYfX (ok : G.Ok) {ip : List (Addr × Obj)} {fs : List Frame} {it : Addr} {σ : L2.St} (low : ∀ p ∈ ip, G.a < p.1 ∧ ∀ h : Heap, h.get? p.1 = some p.2 → ∃ j, h.IsListIter p.1 G.al j) (young : G.a < it) (nal : it ≠ G.al) (nP : ∀ p ∈ [(G.a, G.go)] ++ ip, p.1 ≠ it)
    (calm : (G.A.over (.builtin "proto.yield_from" ⟨[.ref it, .bool false, .none], []⟩) fs).handled = none) (sp : splitAtGen fs = none) (gd : fs.any Frame.guarded = false) (tt : G.tot = G.ns.length) (vv : ∀ (j : Nat) (k : Int), G.ns[j]? = some k → G.val j = k)
    (fin : ∀ (s₀ s : Shared), G.Seat s₀ → s.gens = s₀.gens → Inv (G.cx s₀) ip σ (G.hx s₀) s → Seg G.md G.A G.R G.Y 0 s₀ (.builtin "proto.yield_from" ⟨[.ref it, .bool false, .none], []⟩) (.pure (.done (.ret .none))) fs s) :
    ∀ (r j n : Nat) (s₀ s : Shared), j + r = G.ns.length → n + j = G.tot → G.Seat s₀ → s.gens = s₀.gens → Inv (G.cx s₀) ip σ (G.hx s₀) s → G.hx s₀ it = none → s.heap.IsListIter it G.al j →
      Seg G.md G.A G.R G.Y n s₀ (.builtin "proto.yield_from" ⟨[.ref it, .bool false, .none], []⟩) (G.md.den (.builtin "proto.yield_from" ⟨[.ref it, .bool false, .none], []⟩)) fs s := by
  have nfs : it ∉ frs G.outer := fun m => absurd (Nat.lt_trans (Nat.lt_trans (ok.low it m) ok.na) young) (Nat.lt_irrefl _)
  have turned : ∀ {s₀ s : Shared} {h' : Heap} {tk : Nat}, G.hx s₀ it = none → Inv (G.cx s₀) ip σ (G.hx s₀) s → (∀ b o, b ≠ it → s.heap.get? b = some o → h'.get? b = some o) → Inv (G.cx s₀) ip σ (G.hx s₀) { s with heap := h', toks := tk } := fun {s₀ s h' tk} hn I hk => by
    refine I.turned (it := it) hk hn (Nat.ne_of_gt (Nat.lt_trans ok.na young)) (.inr ?_) (fun x c e => Nat.ne_of_lt (Nat.lt_trans (ok.cellR x c e).2 young)) nP
    show (cutH s₀.heap G.n0).objs.size ≤ it
    rw [cutH_size]
    exact Nat.le_trans (Nat.min_le_left _ _) (Nat.le_of_lt (Nat.lt_trans ok.na young))
  intro r
  induction r with
  | zero =>
    intro j n s₀ s hj hn seat hg I hit isL
    obtain rfl : j = G.ns.length := by omega
    obtain rfl : n = 0 := by omega
    obtain ⟨_, its, _, rits, hl⟩ := I.hok G.al _ hx_al
    have isl : s.heap.IsList G.al its.toArray := ⟨_, hl, rfl, _, rfl⟩
    have none' : its.toArray[G.ns.length]? = none := by
      have e := rits.length
      rw [List.length_map] at e
      have e2 : its[G.ns.length]? = none := List.getElem?_eq_none_iff.mpr (by omega)
      simpa using e2
    rw [show G.md.den _ = _ from den_yf (X := G.cx s₀)]
    unfold Builtin.«proto.yield_from»
    try dsimp only
    refine seg_bind (wpAny_pure ?_)
    try dsimp only
    refine seg_bind (wpAny_attempt (wpAny_holding ?_))
    rw [if_neg Bool.false_ne_true, if_pos (show (Value.none == Value.none) = true from rfl)]
    refine wpAny_bind (wpAny_rule (wpAny_bind ?_))
    refine special_lst_end calm isL isl none' fun e h' hS hk => ?_
    obtain ⟨ae, oe, vs, rfl, hoe, hce, hde, h5⟩ := hS
    try dsimp only
    refine seg_bind (wpAny_endsTurn hoe hce ?_)
    try dsimp only
    rw [if_pos rfl]
    first
      | refine seg_bind (wpAny_rule ?_)
      | (rw [if_neg Bool.false_ne_true]; refine seg_bind (wpAny_rule ?_))
      | (rw [if_neg Bool.false_ne_true]; refine seg_bind (wpAny_pure ?_); refine seg_bind (wpAny_rule ?_))
    refine seg_bind (wpAny_field hoe hde h5 ?_)
    exact fin s₀ _ seat hg (turned (tk := s.toks) hit I fun b o hb eb => hk b o hb eb)
  | succ r ih =>
    intro j n s₀ s hj hn seat hg I hit isL
    have lt : j < G.ns.length := by omega
    obtain ⟨kk, hkk⟩ : ∃ kk, G.ns[j]? = some kk := ⟨_, List.getElem?_eq_getElem lt⟩
    obtain ⟨_, its, _, rits, hl⟩ := I.hok G.al _ hx_al
    have isl : s.heap.IsList G.al its.toArray := ⟨_, hl, rfl, _, rfl⟩
    obtain ⟨u, hu, ru⟩ := rits.get (show (G.ns.map V.int)[j]? = some (V.int kk) by rw [List.getElem?_map, hkk]; rfl)
    obtain ⟨n, rfl⟩ : ∃ m, n = m + 1 := ⟨n - 1, by omega⟩
    rw [show G.md.den _ = _ from den_yf (X := G.cx s₀)]
    unfold Builtin.«proto.yield_from»
    try dsimp only
    refine seg_bind (wpAny_pure ?_)
    try dsimp only
    refine seg_bind (wpAny_attempt (wpAny_holding ?_))
    rw [if_neg Bool.false_ne_true, if_pos (show (Value.none == Value.none) = true from rfl)]
    refine wpAny_bind (wpAny_rule (wpAny_bind ?_))
    refine special_lst_item isL isl (x := u) (by simpa using hu) fun h' isL' hs => ?_
    have I' := turned (tk := s.toks) hit I fun b o hb eb => hs.extBut b o hb eb
    obtain ⟨oi, hoi, hci, hdi⟩ := id isL'
    refine wpAny_pure ?_
    try dsimp only
    refine seg_bind (wpAny_typeOf (T := "list_iterator") ⟨oi, hoi, hci⟩ ?_)
    try dsimp only
    first
      | (refine seg_bind (wpAny_of_eq close_lst ?_); refine seg_bind (wpAny_pure ?_))
      | refine seg_bind (wpAny_bind (wpAny_of_eq close_lst (wpAny_pure ?_)))
      | refine seg_bind (wpAny_of_eq close_lst ?_)
    try dsimp only
    refine seg_bind (wpAny_sleptOver hoi hci (by decide) ?_)
    refine seg_yield sp rfl gd ?_
    have Ip : Inv (G.cx s₀) (ip ++ [(it, oi)]) σ (G.hx s₀) { s with heap := h', toks := s.toks } := I'.pins_of fun p hp => by
      rcases List.mem_append.mp hp with z | z
      · exact I'.pin p (List.mem_append_right _ z)
      · rw [List.mem_singleton.mp z]
        exact ⟨hoi, hit, Nat.ne_of_gt (Nat.lt_trans ok.na young), nfs, fun v q => by rw [hdi] at q; cases q⟩
    refine ⟨j, by omega, ?_, keepx_of ok seat.1 Ip (Same.refl _) hg seat.2, fun s2 e2 own => ?_⟩
    · obtain ⟨t, e⟩ := ru
      exact ⟨t, by rw [vv j kk hkk]; exact e⟩
    have m : ∀ p ∈ ip ++ [(it, oi)], Mine h' G.reg G.a G.al p.1 := fun p hp => by
      rcases List.mem_append.mp hp with z | z
      · obtain ⟨h1, h2⟩ := low p z
        exact .inr ⟨h1, h2 _ (Ip.pin p (List.mem_append_right _ (List.mem_append_left _ z))).1⟩
      · rw [List.mem_singleton.mp z]
        exact .inr ⟨young, _, isL'⟩
    have I2 := wake_in ok Ip m e2 own
    have there := I2.pin (it, oi) (List.mem_append_right _ (List.mem_append_right _ (List.mem_singleton.mpr rfl)))
    have goThere := (I2.pin (G.a, G.go) (List.mem_append_left _ (List.mem_singleton.mpr rfl))).1
    have I3 : Inv (G.cx s2) ip σ (G.hx s2) s2 := I2.pins_of fun p hp => I2.pin p (List.mem_append_right _ (List.mem_append_left _ hp))
    show Seg _ _ _ _ n s2 _ (Builtin.Generator.sleptOver (.ref it) false >>= fun _ => _) fs s2
    refine seg_bind (wpAny_sleptOver there.1 hci (by decide) ?_)
    try dsimp only
    refine seg_bind (wpAny_pure ?_)
    exact seg_again (plainId_quiet plain_yf _) (ih (j + 1) n s2 s2 (by omega) (by omega) ⟨e2, goThere⟩ rfl I3 there.2.1 ⟨oi, there.1, hci, hdi⟩)
end
end Sq
set_option Elab.async false
set_option linter.all false
set_option maxRecDepth 100000
set_option maxHeartbeats 4000000
/-! A generator def of some statements and a yield from of the list that its last expression makes: the def's promise. -/
namespace PySem
section
variable {M : Model} {A : Around} {Φ : End → Shared → Prop} {c : Code} {fs : List Frame} {s : Shared} {env : Env} {K : Flow → Sem Fin} {H : Value → Sem Fin} {gd : Bool → Bool} {lv : List Value → List Value}
theorem segT_at {p' : Pos} {k : Unit → Sem Fin} (h : SegT M A Φ c (k ()) fs s) : SegT M A Φ c (.at p' k) fs s :=
  segT_wrap (m := standAt p') (K := k) (H := .raise) (gd := id) (lv := id) (wpAny_standAt h)
theorem segTw_bind2 {α β γ : Type} {m : Sem α} {f : α → Sem β} {f2 : β → Sem γ} {K : γ → Sem PySem.Fin} {J : Value → Sem PySem.Fin} {gd : Bool → Bool} {lv : List Value → List Value}
    (h : wpAny M (A.over c fs) m (fun a s' => SegT M A Φ c ((f a).wrap (fun b => (f2 b).wrap K J gd lv) J gd lv) fs s') (fun x s' => SegT M A Φ c (J x) fs s') s) :
    SegT M A Φ c (((m >>= f) >>= f2).wrap K J gd lv) fs s := by
  rw [Sem.bind_eq_wrap' (m >>= f) f2, Sem.wrap_wrap]
  exact segT_bind h
theorem execs_app_wrap : ∀ (pre rest : List Stmt) (K : Flow → Sem Fin), (execs (pre ++ rest) env).wrap K H gd lv = (execs pre env).wrap (fun f => match f with | .next => (execs rest env).wrap K H gd lv | f => K f) H gd lv
  | [], rest, K => rfl
  | st :: pre, rest, K => by
    rw [List.cons_append, execs_cons_wrap, execs_cons_wrap]
    exact Sem.wrap_congr _ _ _ (fun f => by
      cases f with
      | next => exact execs_app_wrap pre rest K
      | _ => rfl) (fun _ => rfl)
end
end PySem
namespace Sq
open PySem PySem.Spec PyProof.Rows L2 GenW
theorem cells_from : ∀ (names : List (Str × NameKind)) (a : Addr) (acc : List (Str × Addr)) {x : Str} {c : Addr}, (cellsFrom a names acc).lookup x = some c → a ≤ c ∨ acc.lookup x = some c
  | [], a, acc, x, c, h => .inr h
  | (y, kd) :: r, a, acc, x, c, h => by
    unfold cellsFrom at h
    by_cases e : (kd == .cell) = true
    · rw [if_pos e] at h
      rcases cells_from r (a + 1) _ h with z | z
      · exact .inl (Nat.le_of_succ_le z)
      · rw [List.lookup_cons] at z
        cases e2 : (x == y) with
        | true =>
          rw [e2] at z
          cases z
          exact .inl (Nat.le_refl _)
        | false =>
          rw [e2] at z
          exact .inr z
    · rw [if_neg e] at h
      exact cells_from r a acc h
theorem cells_above {n0 : Addr} {sc : Scope} {x : Str} {c : Addr} (q : (cellsFrom (n0 + 1) sc.names []).lookup x = some c) : n0 < c := by
  rcases cells_from _ _ _ q with h | h
  · exact h
  · cases h
theorem vfn2_of {P : Program} {w : World} {K : PySem.W.Frag} {mg : Str → Option Value} {base : Heap} {k : Nat} {f : Addr} {name qual : Str} {params : Arguments} {body : List Stmt} {scope : Scope} {dV kV doc pm cdv ct oc : Value} {an od : Option Addr}
    {osl : Array (Option Value)} {N ps : List Str} {sp : SpV} {pre : List Stmt} {e : Expr} {yp pos : Pos} (found : K.lookup f = some ⟨oc, od, .func (PySem.W.fnOf name qual params body scope dV kV doc pm an cdv ct), osl⟩) (coded : PySem.W.codeIn K cdv qual = true) (S : GScope N ps scope)
    (hbody : body = pre ++ [.Expr (.YieldFrom e yp) pos]) (len : ∀ vs W ns tot val, sp vs W ns tot val → vs.length = ps.length) (kind : ∀ vs W ns tot val, sp vs W ns tot val → ∀ b u, W b = some u → (∃ φ, u = .ext φ) ∨ ∃ xs, u = .lst xs)
    (seq : ∀ vs W ns tot val, sp vs W ns tot val → tot = ns.length ∧ ∀ (j : Nat) (k : Int), ns[j]? = some k → val j = k)
    (inner : ∀ (G : Vg) (ns : List Int) (tot : Nat) (val : Nat → Int) (vs : List V), G.Ok → G.P = P → G.w = w → G.K = K → G.mg = mg → G.base = base → G.N = N → G.qual = qual → G.scope = scope → Room k (G.A.deeper (envOfC qual scope G.n0 G.f G.cd)) → sp vs G.W ns tot val →
      ∃ (tp : TS) (te : TE), (∀ s₀, GSts (G.cx s₀) pre tp) ∧ (∀ s₀, GE (G.cx s₀) e te) ∧
        ∀ Hb : Hp, (∀ b u, G.W b = some u → Hb b = some u) → tp { nx := fun σ H => te σ H fun v H1 => ∃ al, v = .ref al ∧ H1 al = some (.lst (ns.map V.int)) ∧ Hb al = none ∧ Same Hb H1, rt := fun _ _ => False } (start N vs) Hb)
    (hi : ∀ n0, interactive (envOfC qual scope n0 f cdv) = false := by intro _; rfl) : GFnV P w K mg base (k + 1) f (PySem.W.fnOf name qual params body scope dV kV doc pm an cdv ct) ps sp := by
  refine ⟨len, fun A outer s args us vs W ns tot val room e0 bound rel wish => ?_⟩
  have few := len _ _ _ _ _ wish
  have inK : K.In s.heap := e0.mod.kin.keeps fun b o e => (e0.bs b o e).1
  have noLim : s.heap.NoLimit := e0.mod.nolimit.keeps fun b o e => (e0.bs b o e).1
  have kinds : ∀ y ∈ ps.zip us, scope.names.lookup y.1 = some .local ∨ (scope.names.lookup y.1 = some .cell ∧ ((cellsFrom (s.heap.objs.size + 1) scope.names []).lookup y.1).isSome = true) := fun ⟨n, v⟩ hy =>
    (S.par n (List.of_mem_zip hy).1).elim .inl fun z => .inr ⟨z, PySem.W.cellsFrom_some _ _ _ (.inl z)⟩
  refine codeAny_call_generator room.depth (inK _ _ found) rfl S.co S.gen rfl (PySem.W.codeRec_of inK coded) (bound _ _ _ _ ?_)
  refine wpAny_newFunctionEnv_cells S.kind kinds fun env he s1 made => ?_
  subst he
  have lim1 : s1.heap.NoLimit := noLim.keeps made.toInCall.keep
  refine ⟨lim1, ?_⟩
  obtain ⟨h1, tk, es1, keep1⟩ := made.done
  have os1 : s1.os = s.os := by rw [es1]
  have gen1 : s1.gens = s.gens := by rw [es1]
  have lt1 : s.heap.objs.size < s1.heap.objs.size := made.toInCall.ns.lt
  have keepS : ∀ b o, s.heap.get? b = some o → s1.heap.get? b = some o := made.toInCall.keep
  suffices main : ∀ (go : Obj) (nm qn : Value) (tk2 : Nat), go.cls = .type "generator" → go.data = .fields #[.int s1.gens.size 0, nm, qn] → go.slots = #[] → (∀ h : Heap, (h.push go).get? h.objs.size = some go) →
      VMade P w K mg base (k + 1) outer s W ns tot val (.ref s1.heap.objs.size) { s1 with gens := s1.gens.push (.fresh (.func body (envOfC qual scope s.heap.objs.size f cdv))), toks := tk2, heap := s1.heap.push go } from
    main _ _ _ _ rfl rfl rfl fun h => Heap.get?_push_size _ rfl
  intro go nm qn tk2 isG dataG slotsG pushG
  have isGen : ∀ h : Heap, h.get? s1.heap.objs.size = some go → h.IsGen s1.heap.objs.size s.gens.size := fun h e => ⟨go, nm, qn, e, isG, by rw [dataG, gen1], slotsG⟩
  have ns1 := made.toInCall.ns
  have e0w' : ∀ Aw, Aw.frames = some outer → Env0 P w K mg base Aw outer s W := fun Aw fr => ⟨fr, e0.mod, e0.bs, e0.bsz, e0.funs, e0.frf, e0.hok, e0.bare⟩
  have I1 : ∀ (Aw : Around), Room (k + 1) Aw → Aw.frames = some outer → Inv (gcxOf P w K mg base N qual scope f cdv Aw outer s W E0 []) [] (start N vs) W s1 := fun Aw roomW framesW => inv_startG S roomW.hd (e0w' Aw framesW) few rel made
  have cellI : ∀ x c, (cellsFrom (s.heap.objs.size + 1) scope.names []).lookup x = some c → ∃ v, s1.heap.IsCell c v := fun x c q => (I1 A room e0.frames).cell x c q
  have cellR : ∀ x c, (cellsFrom (s.heap.objs.size + 1) scope.names []).lookup x = some c → s.heap.objs.size < c ∧ c < s1.heap.objs.size := fun x c q => by
    obtain ⟨v, o, ho, _⟩ := cellI x c q
    refine ⟨?_, Heap.lt_size ho⟩
    exact cells_above q
  refine ⟨s1.heap.objs.size, _, scope, rfl, lt1, isGen _ (pushG _), by rw [← gen1], os1, lim1.keeps fun b o e => Heap.get?_push_of_some _ e, fun b o e => Heap.get?_push_of_some _ (keepS b o e), ?_, rfl, Heap.size_push .., ?_⟩
  · intro b m
    rcases m with m | ⟨x, q⟩
    · rw [m]
      obtain ⟨o, es, ep, ho, r⟩ := id ns1
      exact ⟨o, Heap.get?_push_of_some _ ho, .inl ⟨es, ep, r.1⟩⟩
    · obtain ⟨v, o, ho, hd⟩ := cellI x b q
      exact ⟨o, Heap.get?_push_of_some _ ho, .inr ⟨v, hd⟩⟩
  · intro Aw roomW framesW
    obtain ⟨G, eG⟩ : ∃ G : Vg, G = ⟨P, w, K, mg, base, N, qual, scope, f, cdv, Aw, outer, s.heap.objs.size, s1.heap.objs.size, go, s.gens.size, W⟩ := ⟨_, rfl⟩
    have ok : G.Ok := by
      subst eG
      exact ⟨fun b hb => by obtain ⟨_, o, ho, _⟩ := e0.funs.mem hb; exact Heap.lt_size ho, lt1, e0.bsz, cellR, isGen, fun b u q => (e0.hok b u q).lt, kind _ _ _ _ _ wish⟩
    refine ⟨G, ok, by rw [eG], by rw [eG], by rw [eG], by rw [eG], by rw [eG], by rw [eG], by rw [eG], by rw [eG], by rw [eG], by rw [eG], by rw [eG], by rw [eG], fun s2 e2' own => ?_⟩
    obtain ⟨tp, te, hp, he, rd0⟩ := inner G ns tot val vs ok (by rw [eG]) (by rw [eG]) (by rw [eG]) (by rw [eG]) (by rw [eG]) (by rw [eG]) (by rw [eG]) (by rw [eG]) (by rw [eG]; exact roomW.deeper _) (by rw [eG]; exact wish)
    have keepP : ∀ b o, s1.heap.get? b = some o → (s1.heap.push go).get? b = some o := fun b o e => Heap.get?_push_of_some _ e
    obtain ⟨s', es'⟩ : ∃ s' : Shared, s' = { s1 with gens := s1.gens.push (.fresh (.func body (envOfC qual scope s.heap.objs.size f cdv))), toks := tk2, heap := s1.heap.push go } := ⟨_, rfl⟩
    have I1w := I1 Aw roomW framesW
    have I2 : Inv (gcxOf P w K mg base N qual scope f cdv Aw outer s W E0 []) [] (start N vs) W s' := by
      rw [es']
      exact I1w.call' (ch := []) rfl (Un.kept keepP) (I1w.hok.kept keepP) (AllBare.push (by rw [gen1]; exact e0.bare) rfl) fun b z => by simp at z
    have I3 : Inv (gcxOf P w K mg base N qual scope f cdv Aw outer s W E0 [(s1.heap.objs.size, go)]) [] (start N vs) W s' := Inv.pinnedG I2 fun p hp => by
      have hp' : p = (s1.heap.objs.size, go) := by simpa using hp
      rw [hp', es']
      exact ⟨pushG _, I1w.hok.fresh (Nat.le_refl _), Nat.ne_of_gt lt1, I1w.nofs (Nat.le_refl _), fun v q => by rw [dataG] at q; cases q⟩
    have I4 := inv_lcx I3
    have ecx : G.cx s = lcx P w K mg base N qual scope f cdv Aw outer s.heap.objs.size s W E0 [(s1.heap.objs.size, go)] := by
      have h1 : G.hx s = G.W := hv_start (by rw [eG])
      show lcx G.P G.w G.K G.mg G.base G.N G.qual G.scope G.f G.cd G.A G.outer G.n0 (cutSh s G.n0) (G.hx s) E0 [(G.a, G.go)] = _
      rw [h1, eG]
      show lcx P w K mg base N qual scope f cdv Aw outer s.heap.objs.size (cutSh s s.heap.objs.size) W E0 [(s1.heap.objs.size, go)] = _
      rw [cutS_all (Nat.le_refl _)]
    rw [← ecx] at I4
    have own' : ∀ b o, (b = G.a ∨ G.reg b) → s'.heap.get? b = some o → s2.heap.get? b = some o := by
      intro b o m
      rw [es']
      refine own b o (m.elim (fun z => .inl (by rw [z, eG])) .inr)
    have I5 := wakeV ok I4 e2' own'
    have hgo : s2.heap.get? G.a = some G.go := own' G.a _ (.inl rfl) (by rw [eG, es']; exact pushG _)
    have rdp := rd0 (G.hx s2) fun b u q => hv_W q
    have calm : (G.A.deeper (G.x s.heap.objs.size ns tot val).env).handled = none := by rw [eG]; exact (roomW.deeper _).hd
    obtain ⟨tt, vv⟩ := seq _ _ _ _ _ wish
    have ecode : (.func body (envOfC qual scope s.heap.objs.size f cdv) : Code) = .func (pre ++ [.Expr (.YieldFrom e yp) pos]) (G.x s.heap.objs.size ns tot val).env := by rw [eG, hbody]
    rw [ecode]
    refine segT_func ?_
    rw [execs_app_wrap]
    refine segT_wrap ?_
    rw [over_func]
    have exc : ∀ (x : Value) (s4 : Shared), (G.cx s2).xe x s4 → SegT G.md G.A (G.Φ ns tot val s2) (.func (pre ++ [.Expr (.YieldFrom e yp) pos]) (G.x s.heap.objs.size ns tot val).env) ((leaving (G.x s.heap.objs.size ns tot val).env x).wrap (fun _ => .raise x) .raise id id) [] s4 := fun x s4 hx => by
      refine segT_wrap ?_
      rw [over_func]
      refine wpAny_mono hx (fun _ s'' q => ?_) fun _ s'' q => q.elim
      obtain ⟨a', B, H', cls, d, _, _, _, _, _, _, _, z⟩ := q.1
      exact z.elim
    refine wpAny_mono ((hp s2).run [] s2 (start N vs) _ _ I5 rdp) (fun fl s3 h3 => ?_) fun y s4 hx => exc y s4 hx
    obtain ⟨g3, sp3⟩ := h3
    match fl, sp3 with
    | .brk, ⟨_, _, _, q⟩ => exact False.elim q
    | .cont, ⟨_, _, _, q⟩ => exact False.elim q
    | .ret u, ⟨_, _, _, _, _, q⟩ => exact False.elim q
    | .next, ⟨σ3, H3, I6, rde⟩ =>
      refine segT_cons ?_
      rw [exec_Expr (G.x s.heap.objs.size ns tot val).env _ pos (by rw [eG]; exact hi _) rfl]
      show SegT _ _ _ _ (.at pos fun _ => ((eval e (G.x s.heap.objs.size ns tot val).env >>= fun v => (standAt yp >>= fun _ => yieldFrom (G.x s.heap.objs.size ns tot val).env v)) >>= fun x => dropValue (.YieldFrom e yp) pos x).wrap _ _ id id) [] s3
      refine segT_at (segTw_bind2 ?_)
      rw [over_func]
      refine wpAny_mono ((he s2).run [] s3 σ3 H3 _ I6 rde) (fun v s4 h4 => ?_) fun y s4 hx => exc y s4 hx
      obtain ⟨g4, y, H4, I7, rv, al, ey, hal, nal, sm⟩ := h4
      subst ey
      obtain rfl : v = Value.ref al := rv
      have g34 : s4.gens = s2.gens := g4.trans g3
      obtain ⟨okx, seat, I8⟩ := list_stands ok e2' I7 sm g34 hgo tot val hal nal
      have new := (list_new ok I7 sm hal nal).1
      have kv := keptV_of ok e2' I7 sm g34 hgo
      refine segT_of (R := (G.x al ns tot val).R) (Y := (G.x al ns tot val).Y) (n := tot) (s₀ := s4) ?_ fun e s' he => ⟨al, s4, kv, new, okx, seat.1, he⟩
      obtain ⟨_, its, _, rits, hl⟩ := I8.hok al _ hx_al
      have isl : s4.heap.IsList al its.toArray := ⟨_, hl, rfl, _, rfl⟩
      refine seg_at ?_
      show Seg _ _ _ _ tot s4 _ ((yieldFrom (G.x s.heap.objs.size ns tot val).env (.ref al)).wrap (fun b => (dropValue (.YieldFrom e yp) pos b).wrap _ _ id id) _ id id) [] s4
      unfold yieldFrom
      refine seg_bind_wrap (wpAny_typeOf isl.typeIs ?_)
      rw [if_neg (show ¬ ((Value.type "list" == Value.type "coroutine") = true) by decide)]
      refine seg_bind_wrap (wpAny_holding ?_)
      rw [over_func]
      refine wpAny_pyIter_list isl ?_
      have kept : ∀ b o, s4.heap.get? b = some o → (s4.heap.push { cls := .type "list_iterator", data := .fields #[.ref al, .int 0 0] }).get? b = some o := fun b o e => Heap.get?_push_of_some _ e
      have I9 : Inv ((G.x al ns tot val).cx s4) [] σ3 ((G.x al ns tot val).hx s4) { s4 with heap := s4.heap.push { cls := .type "list_iterator", data := .fields #[.ref al, .int 0 0] } } := I8.kept (t' := s4.toks) kept
      have goThere := (I8.pin (G.a, G.go) (List.mem_append_left _ (List.mem_singleton.mpr rfl))).1
      refine seg_call fun p => ?_
      refine segYfX okx (ip := []) (σ := σ3) (fun q hq => absurd hq List.not_mem_nil) (Heap.lt_size goThere) (Nat.ne_of_gt (Heap.lt_size hl)) (fun q hq => ?_) ?_ rfl rfl tt vv (fun s₀' s' seat' hg' I' => ?_) ns.length 0 tot s4 _ (Nat.zero_add _) (Nat.add_zero _) seat rfl I9 (I8.hok.fresh (Nat.le_refl _)) ⟨_, Heap.get?_push_size _ rfl, rfl, rfl⟩
      · rcases List.mem_append.mp hq with z | z
        · rw [List.mem_singleton.mp z]
          exact Nat.ne_of_lt (Heap.lt_size goThere)
        · exact absurd z List.not_mem_nil
      · show (G.A.over (.func (pre ++ [.Expr (.YieldFrom e yp) pos]) (G.x s.heap.objs.size ns tot val).env) []).handled = none
        rw [over_func]
        exact calm
      · have endS : Seg G.md G.A (G.x al ns tot val).R (G.x al ns tot val).Y 0 s₀' (.func (pre ++ [.Expr (.YieldFrom e yp) pos]) (G.x s.heap.objs.size ns tot val).env) ((execs [] (G.x s.heap.objs.size ns tot val).env).wrap (fun f => .pure (.done (.ret (match f with | .ret v => v | _ => .none)))) (fun e => (leaving (G.x s.heap.objs.size ns tot val).env e).wrap (fun _ => .raise e) .raise id id) id id) [] s' :=
          seg_execs_nil (seg_end (.ok (.ret .none)) ⟨.inl rfl, rfl, keepx_of okx seat'.1 I' (Same.refl _) hg' seat'.2⟩)
        exact seg_leaf (.ok (.ret .none)) endS
end Sq
set_option Elab.async false
set_option linter.all false
set_option maxRecDepth 100000
set_option maxHeartbeats 4000000
/-! Loops, comprehensions and operators that leave the generators' table as it is. -/
namespace Sq
open PySem PySem.Spec PyProof.Rows L2 GenW
/-- an iterator whose turns keep the table -/
structure GTurn (P : Program) (w : World) (K : PySem.W.Frag) (tg : Expr) (J : It) (fp : List Addr) (it : Addr) (tn : Nat → Heap → Prop) : Prop where
  base : Turn P w K tg J fp it tn
  gitem : ∀ (X : Cx), X.prog = P → X.w = w → X.K = K → X.calm = true → ∀ (i : Nat) (pins : List (Addr × Obj)) (s : Shared) (σ : L2.St) (H : Hp) (E : Value → Shared → Prop), Inv X pins σ H s → (∀ b ∈ fp, FpOk X pins H b) → tn i s.heap → J.go i H →
    wpAny (model P w) X.A (pyNext (.ref it)) (fun r s1 => ∃ u, r = some u ∧
      wpAny (model P w) X.A (letOwnedTupleGo tg (.ref it) u) (fun _ s2 => s2.gens = s.gens ∧ ∃ x H', Inv X pins σ H' s2 ∧ RelV x u ∧ J.yld i H x H' ∧ tn (i + 1) s2.heap ∧ ∀ b ∈ fp, H' b = none) E s1) E s
  gdone : ∀ (X : Cx), X.prog = P → X.w = w → X.K = K → X.calm = true → ∀ (i : Nat) (pins : List (Addr × Obj)) (s : Shared) (σ : L2.St) (H : Hp) (E : Value → Shared → Prop), Inv X pins σ H s → (∀ b ∈ fp, FpOk X pins H b) → tn i s.heap → J.stop i H →
    wpAny (model P w) X.A (pyNext (.ref it)) (fun r s1 => r = none ∧ s1.gens = s.gens ∧ Inv X pins σ H s1) E s
def GPIE (X : Cx) (pins : List (Addr × Obj)) (σ : L2.St) (tg : Expr) (R : It → Hp → Prop) (itv : Value) (s2 : Shared) : Prop :=
  ∃ (it : Addr) (fp : List Addr) (tn : Nat → Heap → Prop) (J : It) (H' : Hp), itv = .ref it ∧ Inv X pins σ H' s2 ∧ GTurn X.prog X.w X.K tg J fp it tn ∧ tn 0 s2.heap ∧ (∀ b ∈ fp, FpOk X pins H' b) ∧ R J H'
structure GI (X : Cx) (tg iter : Expr) (wi : TI) : Prop where
  run : ∀ (pins : List (Addr × Obj)) (s : Shared) (σ : L2.St) (H : Hp) (R : It → Hp → Prop), Inv X pins σ H s → wi σ H R →
    wpAny (model X.prog X.w) X.A (eval iter X.env) (fun v s1 => wpAny (model X.prog X.w) X.A (pyIter v) (fun u s2 => s2.gens = s.gens ∧ GPIE X pins σ tg R u s2) X.xe s1) X.xe s
structure GTs (X : Cx) (ifs : List Expr) (t : TT) : Prop where
  run : ∀ (pins : List (Addr × Obj)) (s : Shared) (σ : L2.St) (H : Hp) (Q : Bool → Hp → Prop), Inv X pins σ H s → t σ H Q →
    wpAny (model X.prog X.w) X.A (forIn ifs true fun c r => if r = true then do let ok ← isTrue c X.env (eval c X.env); pure (ForInStep.yield ok) else pure (ForInStep.yield r)) (fun b s' => s'.gens = s.gens ∧ TP X pins σ Q b s') X.xe s
theorem gturn_list {P : Program} {w : World} {K : PySem.W.Frag} {tg : Expr} (a it : Addr) : GTurn P w K tg (Itl K a) [it] it (fun i h => h.IsListIter it a i) where
  base := turn_list a it
  gitem := by
    intro X eP ew eK mood i pins s σ H E I roam seat more
    subst eP ew eK
    obtain ⟨xs, x, hq, hx⟩ := more
    obtain ⟨its, rv, p, _⟩ := I.list hq
    obtain ⟨u, hu, ru⟩ := rv.get hx
    obtain ⟨f0, f1, f2, f3, f4, f5⟩ := roam it (by simp)
    refine wpAny_pyNext_list_item seat p.isList (x := u) (by simpa using hu) fun h2 seat2 sb => ?_
    have I1 : Inv X pins σ H { s with heap := h2 } := I.turned (t' := s.toks) (fun b o hb e => (sb.2 b hb).trans e) f0 f1 f3 f4 f5
    obtain ⟨o, e, c, d⟩ := id seat2
    exact ⟨u, rfl, go_of (s := { s with heap := h2 }) e c d (by decide) ⟨rfl, x, H, I1, ru, ⟨rfl, fun ys hy => by rw [I.list_inj hy hq]; exact hx⟩, seat2, fun b hb => (roam b hb).1⟩⟩
  gdone := by
    intro X eP ew eK mood i pins s σ H E I roam seat atEnd
    subst eP ew eK
    obtain ⟨xs, hq, hx⟩ := atEnd
    obtain ⟨its, rv, p, _⟩ := I.list hq
    obtain ⟨f0, f1, f2, f3, f4, f5⟩ := roam it (by simp)
    have len := rv.length
    exact wpAny_pyNext_list_end (I.ok.hd mood) seat p.isList (by simp; omega) fun h2 eb => ⟨rfl, rfl, I.turned (t' := s.toks) (fun b o hb e => eb b o hb e) f0 f1 f3 f4 f5⟩
theorem gturn_range {P : Program} {w : World} {K : PySem.W.Frag} {tg : Expr} (it : Addr) (lo : Int) (n : Nat) : GTurn P w K tg (Itr lo n) [it] it (fun i h => IsRangeIter h it (lo + (i : Nat) * 1) ((n : Int) - (i : Nat)) 1) where
  base := turn_range it lo n
  gitem := by
    intro X eP ew eK mood i pins s σ H E I roam seat more
    subst eP ew eK
    obtain ⟨f0, f1, f2, f3, f4, f5⟩ := roam it (by simp)
    have Wk := Walks.range (prog := X.prog) (w := X.w) (I.ok.hd mood) it lo 1 n
    refine Wk.item i s _ _ more seat fun v h2 tk hv seat2 kk => ?_
    obtain ⟨t, rfl⟩ := hv
    have I1 : Inv X pins σ H { s with heap := h2, toks := tk } := I.turned (fun b o hb e => kk b o (by simpa using hb) e) f0 f1 f3 f4 f5
    refine ⟨_, rfl, go_of (s := { s with heap := h2, toks := tk }) (n := "range_iterator") seat2 rfl rfl (by decide) ⟨rfl, .int (lo + i), H, I1, ⟨t, ?_⟩, ⟨rfl, rfl⟩, seat2, fun b hb => (roam b hb).1⟩⟩
    rw [Int.mul_one]
  gdone := by
    intro X eP ew eK mood i pins s σ H E I roam seat atEnd
    subst eP ew eK
    obtain ⟨f0, f1, f2, f3, f4, f5⟩ := roam it (by simp)
    exact wpAny_pyNext_range_end (I.ok.hd mood) seat (by have : n ≤ i := atEnd; omega) fun h2 eb => ⟨rfl, rfl, I.turned (t' := s.toks) (fun b o hb e => eb b o hb e) f0 f1 f3 f4 f5⟩
theorem gturn_rev {P : Program} {w : World} {K : PySem.W.Frag} {tg : Expr} (a it : Addr) (n : Nat) : GTurn P w K tg (Itv K a n) [it] it (fun i h => i ≤ n ∧ h.IsRevIter it a ((n : Int) - 1 - (i : Nat))) where
  base := turn_rev a it n
  gitem := by
    intro X eP ew eK mood i pins s σ H E I roam seat more
    subst eP ew eK
    obtain ⟨low, xs, x, hq, hx⟩ := more
    obtain ⟨its, rv, p, _⟩ := I.list hq
    obtain ⟨u, hu, ru⟩ := rv.get hx
    obtain ⟨f0, f1, f2, f3, f4, f5⟩ := roam it (by simp)
    obtain ⟨_, sit⟩ := seat
    have e1 : (n : Int) - 1 - ((i : Nat) : Int) = ((n - 1 - i : Nat) : Int) := by omega
    rw [e1] at sit
    refine wpAny_pyNext_rev_item sit p.isList (x := u) (by simpa using hu) fun h2 seat2 sb => ?_
    have e2 : ((n - 1 - i : Nat) : Int) - 1 = (n : Int) - 1 - ((i + 1 : Nat) : Int) := by omega
    rw [e2] at seat2
    have I1 : Inv X pins σ H { s with heap := h2 } := I.turned (t' := s.toks) (fun b o hb e => (sb.2 b hb).trans e) f0 f1 f3 f4 f5
    obtain ⟨o, e, c, d⟩ := id seat2
    exact ⟨u, rfl, go_of (s := { s with heap := h2 }) e c d (by decide) ⟨rfl, x, H, I1, ru, ⟨rfl, fun ys hy => by rw [I.list_inj hy hq]; exact hx⟩, ⟨low, seat2⟩, fun b hb => (roam b hb).1⟩⟩
  gdone := by
    intro X eP ew eK mood i pins s σ H E I roam seat atEnd
    subst eP ew eK
    obtain ⟨f0, f1, f2, f3, f4, f5⟩ := roam it (by simp)
    obtain ⟨low, sit⟩ := seat
    have ge : n ≤ i := atEnd
    have e1 : (n : Int) - 1 - ((i : Nat) : Int) = -1 := by omega
    rw [e1] at sit
    exact wpAny_pyNext_rev_end (I.ok.hd mood) sit fun h2 eb => ⟨rfl, rfl, I.turned (t' := s.toks) (fun b o hb e => eb b o hb e) f0 f1 f3 f4 f5⟩
section
variable {X : Cx} {pins : List (Addr × Obj)} {σ : L2.St} {H : Hp} {s : Shared} {x : Str}
structure CelG (X : Cx) (y : Str) (c : Addr) : Prop where
  is : X.env.cells.lookup y = some c
  own : X.fn y = true
theorem store_cellG {c : Addr} {M : Model} {A : Around} {E : Value → Shared → Prop} {i : Nat} {v : V} {u : Value} {Q : Unit → Shared → Prop} (I : Inv X pins σ H s) (hN : X.N.Nodup) (hi : X.N[i]? = some x) (hk : X.env.kindOf x = some .cell) (C : CelG X x c) (r : RelV v u)
    (h : ∀ h', Inv X pins (σ.set i (some v)) H { s with heap := h' } → h'.IsCell c (some u) → Heap.SameBut c s.heap h' → Q () { s with heap := h' }) : wpAny M A (storeName X.env x u) Q E s := by
  obtain ⟨m, hn, hl⟩ := id I.loc
  have hiσ : i < σ.length := by rw [I.len]; exact (List.getElem?_eq_some_iff.mp hi).1
  obtain ⟨w0, old⟩ := I.cell x c C.is
  refine wpAny_storeName_cell I.ok.kind hk C.is old fun h' new sb => h h' ?_ new sb
  obtain ⟨oc, hoc, hod⟩ := id old
  have above : ∀ b o, X.s_0.heap.get? b = some o → b ≠ c := fun b o e => Nat.ne_of_lt (Nat.lt_of_lt_of_le (Heap.lt_size e) (I.ok.cab x c C.own C.is))
  have freeC := I.freeC x c C.is
  have loc2 : ∀ (j : Nat) (z : Str) (v' : V), X.N[j]? = some z → (σ.set i (some v))[j]? = some (some v') → Vis X.env.scope z → ∃ u', RelV v' u' ∧ Look X.env h' m z u' := fun j z v' e1 e2 e3 => by
    by_cases hj : j = i
    · subst hj
      rw [hi] at e1
      cases e1
      rw [List.getElem?_set_self hiσ] at e2
      cases e2
      exact ⟨u, r, .inr ⟨.inl hk, c, C.is, new⟩⟩
    · rw [List.getElem?_set_ne (Ne.symm hj)] at e2
      obtain ⟨u', r', q⟩ := hl j z v' e1 e2 e3
      rcases q with q | ⟨k, c2, e4, z4⟩
      · exact ⟨u', r', .inl q⟩
      · have away : c2 ≠ c := fun y => by
          rw [y] at e4
          exact hj (nodup_ix hN e1 (I.ok.inj _ _ _ e4 C.is ▸ hi))
        exact ⟨u', r', .inr ⟨k, c2, e4, z4.sameBut sb away⟩⟩
  refine ⟨I.ok, I.os, I.bare, ⟨fun b o e n hb hx => (sb.2 b (above b o e)).trans (I.base.keep b o e n hb hx), fun b o e n hb hx => ?_, I.base.free, fun b o e hx => ?_, I.base.tups, I.base.frzs, I.base.tbls⟩, ⟨m, hn.sameBut sb (Ne.symm (I.cne x c C.is)), loc2⟩, fun z c2 e => ?_, I.free, I.freeC, fun p hp => ?_, fun b ob e => ?_, by simpa using I.len⟩
  · obtain ⟨sl, e1⟩ := I.base.slot b o e n hb hx
    exact ⟨sl, (sb.2 b (above b o e)).trans e1⟩
  · obtain ⟨o2, e1⟩ := I.base.there b o e hx
    exact ⟨o2, (sb.2 b (above b o e)).trans e1⟩
  · by_cases y : c2 = c
    · rw [y]
      exact ⟨_, new⟩
    · obtain ⟨w2, z2⟩ := I.cell z c2 e
      exact ⟨w2, z2.sameBut sb y⟩
  · obtain ⟨e1, n1, ne1, nf1, d1⟩ := I.pin p hp
    have away : p.1 ≠ c := fun y => by
      rw [y, hoc] at e1
      exact d1 w0 (by rw [← Option.some.inj e1]; exact hod)
    exact ⟨(sb.2 p.1 away).trans e1, n1, ne1, nf1, d1⟩
  · refine (I.hok b ob e).stay (fun b2 w2 hb2 q => (sb.2 b2 fun y => ?_).trans q) (fun _ q => q) fun _ _ q => q
    rw [y, freeC] at hb2
    rcases hb2 with z | z
    · rw [← z, freeC] at e
      cases e
    · cases z
theorem putg_ok {M : Model} {A : Around} {E : Value → Shared → Prop} {i : Nat} {v : V} {u : Value} {Q : Unit → Shared → Prop} (I : Inv X pins σ H s) (hN : X.N.Nodup) (hi : X.N[i]? = some x) (hx : Loc X.env.scope x) (r : RelV v u)
    (h : ∀ s', s'.gens = s.gens → Inv X pins (σ.set i (some v)) H s' → (∃ a, Heap.SameBut a s.heap s'.heap ∧ (a = X.env.locals ∨ X.env.cells.lookup x = some a)) → Q () s') (hf : X.fn x = true ∨ X.env.scope.names.lookup x = some .local) : wpAny M A (storeName X.env x u) Q E s := by
  rcases hx with hk | hk
  · obtain ⟨m, ns, look⟩ := id I.loc
    have inside : i < σ.length := by rw [I.len]; exact (List.getElem?_eq_some_iff.mp hi).1
    have notcls : (X.env.scope.kind == .class || (X.env.scope.kind == .module && X.env.locals != X.env.globals)) = false := by rw [I.ok.kind]; rfl
    refine wpAny_storeName_local hk ns (fun g ns2 sb => ?_) notcls
    obtain ⟨oF, _, _, hoF, _⟩ := id ns
    have low : ∀ b o, X.s_0.heap.get? b = some o → b ≠ X.env.locals := fun b o e => Nat.ne_of_lt (Nat.lt_of_lt_of_le (Heap.lt_size e) I.ok.above)
    have objs : HOk X.prog X.w H g := fun b ob e => by
      refine (I.hok b ob e).stay (fun c2 w2 h2 q => (sb.2 c2 fun z => ?_).trans q) (fun _ q => q) fun _ _ q => q
      subst z
      rcases h2 with z | z
      · rw [← z, I.free] at e
        cases e
      · rw [I.free] at z
        cases z
    have loc2 : ∀ (j : Nat) (z : Str) (w : V), X.N[j]? = some z → (σ.set i (some v))[j]? = some (some w) → Vis X.env.scope z → ∃ u', RelV w u' ∧ Look X.env g (fun y => if y = x then some u else m y) z u' := fun j z w e1 e2 e3 => by
      by_cases ji : j = i
      · subst ji
        rw [hi] at e1
        cases e1
        rw [List.getElem?_set_self inside] at e2
        cases e2
        exact ⟨u, r, .inl ⟨hk, by simp⟩⟩
      · rw [List.getElem?_set_ne (Ne.symm ji)] at e2
        obtain ⟨u', r', q⟩ := look j z w e1 e2 e3
        have zx : z ≠ x := fun e => ji (nodup_ix hN e1 (e ▸ hi))
        rcases q with ⟨k, e⟩ | ⟨k, c2, e, z4⟩
        · exact ⟨u', r', .inl ⟨k, by simp [zx, e]⟩⟩
        · exact ⟨u', r', .inr ⟨k, c2, e, z4.sameBut sb (I.cne z c2 e)⟩⟩
    refine h _ rfl ⟨I.ok, I.os, I.bare, ⟨fun b o e n hb hx2 => (sb.2 b (low b o e)).trans (I.base.keep b o e n hb hx2), fun b o e n hb hx2 => ?_, I.base.free, fun b o e hx2 => ?_, I.base.tups, I.base.frzs, I.base.tbls⟩, ⟨_, ns2, loc2⟩, fun z c2 e => ?_, I.free, I.freeC, fun p hp => ?_, objs, by simpa using I.len⟩ ⟨_, sb, .inl rfl⟩
    · obtain ⟨sl, e1⟩ := I.base.slot b o e n hb hx2
      exact ⟨sl, (sb.2 b (low b o e)).trans e1⟩
    · obtain ⟨o2, e1⟩ := I.base.there b o e hx2
      exact ⟨o2, (sb.2 b (low b o e)).trans e1⟩
    · obtain ⟨w2, z2⟩ := I.cell z c2 e
      exact ⟨w2, z2.sameBut sb (I.cne z c2 e)⟩
    · obtain ⟨e, n, ne, nf, d⟩ := I.pin p hp
      exact ⟨(sb.2 p.1 ne).trans e, n, ne, nf, d⟩
  · have own : X.fn x = true := by
      rcases hf with z | z
      · exact z
      · rw [z] at hk; cases hk
    obtain ⟨c, hc⟩ := I.ok.has x (.inl hk)
    exact store_cellG I hN hi hk ⟨hc, own⟩ r fun h' I2 cell sb => h _ rfl I2 ⟨c, sb, .inr hc⟩
end
section
variable {X : Cx} {tg : Expr}
theorem gi_one {pins : List (Addr × Obj)} {σ : L2.St} {H : Hp} {s : Shared} {R : It → Hp → Prop} {J : It} {tn : Nat → Heap → Prop} {tk : Nat} (I : Inv X pins σ H s) (o : Obj)
    (T : GTurn X.prog X.w X.K tg J [s.heap.objs.size] s.heap.objs.size tn) (st : tn 0 (s.heap.push o)) (q : R J H) : GPIE X pins σ tg R (.ref s.heap.objs.size) { s with heap := s.heap.push o, toks := tk } := by
  refine ⟨s.heap.objs.size, [s.heap.objs.size], tn, J, H, rfl, I.kept fun b ob e => Heap.get?_push_of_some _ e, T, st, fun b hb => ?_, q⟩
  rw [List.mem_singleton.mp hb]
  exact I.fpOk (Nat.le_refl _) (I.hok.fresh (Nat.le_refl _))
theorem gi_list {K0 : PySem.W.Frag} {l : Expr} {tl : TE} (eK : X.K = K0) (hl : GE X l tl) : GI X tg l (iList K0 tl) := by
  subst eK
  refine ⟨fun pins s σ H R I h => ?_⟩
  refine thn (hl.run pins s σ H _ I h) fun v s1 got => ?_
  obtain ⟨g1, x, H1, I1, r1, a, e, ⟨xs, hq⟩, q⟩ := got
  subst e
  cases r1
  obtain ⟨its, rv, p, hz⟩ := I1.list hq
  refine wpAny_pyIter_list p.isList ⟨g1, ?_⟩
  exact gi_one (tk := s1.toks) I1 _ (gturn_list a _) ⟨_, Heap.get?_push_size _ rfl, rfl, rfl⟩ q
theorem gi_rev {K0 : PySem.W.Frag} {e : Expr} {ta : TA} {p pos : Pos} (eK : X.K = K0) (hg : Gl X "reversed") (hm : X.mg "reversed" = none) (ha : GA X [e] ta) (hs : starEach [e] X.env = [(false, eval e X.env)] := by rfl) : GI X tg (.Call (.Name "reversed" p) [e] [] pos) (iRev K0 ta) := by
  subst eK
  refine ⟨fun pins s σ H R I h => ?_⟩
  refine Call_ (ld_blt I hg hm PyProof.Rows.boot_reversed (PyProof.Rows.callWith_type1 (thn (ha.run pos pins s σ H _ I h) fun us s1 got => ?_) hs rfl))
  obtain ⟨g1, vs, H1, I1, r1, a, xs, e, hq, q⟩ := got
  subst e
  obtain ⟨u, rfl, r⟩ := vals1 r1
  cases r
  obtain ⟨its, rv, pl, hz⟩ := I1.list hq
  have len := rv.length
  have e1 : ((its.toArray.size : Nat) : Int) - 1 = (xs.length : Int) - 1 - ((0 : Nat) : Int) := by simp only [List.size_toArray]; omega
  refine call_reversed_list pl.isList (wpAny_pyIter_revIter (l := a) (i := ((its.toArray.size : Nat) : Int) - 1) ⟨_, Heap.get?_push_size _ rfl, rfl, rfl⟩ ⟨g1, ?_⟩)
  refine gi_one (tk := s1.toks) I1 _ (gturn_rev a _ xs.length) ⟨Nat.zero_le _, ?_⟩ q
  rw [← e1]
  exact ⟨_, Heap.get?_push_size _ rfl, rfl, rfl⟩
theorem gi_range1 {a : Expr} {ta : TA} {p pos : Pos} (hg : Gl X "range") (hm : X.mg "range" = none) (ha : GA X [a] ta) (hs : starEach [a] X.env = [(false, eval a X.env)] := by rfl) : GI X tg (.Call (.Name "range" p) [a] [] pos) (iRng1 ta) := by
  refine ⟨fun pins s σ H R I h => ?_⟩
  refine Call_ (ld_blt I hg hm boot_range (PyProof.Rows.callWith_type1 (thn (ha.run pos pins s σ H _ I h) fun us s1 got => ?_) hs rfl))
  obtain ⟨g1, vs, H1, I1, r1, j, ex, q1, q2, q⟩ := got
  subst ex
  obtain ⟨u, rfl, tk, rfl⟩ := vals1 r1
  refine call_range_1 ?_
  generalize eh : s1.heap.push { cls := .type "range", data := .fields #[.int 0 s1.toks, .int j tk, .int 1 (s1.toks + 1)] } = h1
  have isR : IsRange h1 s1.heap.objs.size 0 j 1 s1.toks tk (s1.toks + 1) := by
    rw [← eh]
    exact IsRange.new ..
  have I2 : Inv X pins σ H1 { s1 with heap := h1, toks := s1.toks + 1 + 1 } := I1.kept (t' := s1.toks + 1 + 1) fun b o e => by
    rw [← eh]
    exact Heap.get?_push_of_some _ e
  refine wpAny_pyIter_range isR (small_one (by omega) (by omega) q1 q2) ⟨g1, ?_⟩
  refine ⟨h1.objs.size, [h1.objs.size], _, _, H1, rfl, I2.kept (t' := s1.toks + 1 + 1) (fun b o e => Heap.get?_push_of_some _ e), gturn_range _ 0 j.toNat, ?_, fun b hb => ?_, q⟩
  · have first : (0 : Int) + ((0 : Nat) : Int) * 1 = 0 := by omega
    have left : ((j.toNat : Nat) : Int) - ((0 : Nat) : Int) = Builtin.Range.rangeSize 0 j 1 := by
      rw [rangeSize_one]
      split <;> omega
    show IsRangeIter _ _ ((0 : Int) + ((0 : Nat) : Int) * 1) (((j.toNat : Nat) : Int) - ((0 : Nat) : Int)) 1
    rw [first, left]
    exact (Heap.get?_push_size _ rfl)
  · rw [List.mem_singleton.mp hb]
    exact I2.fpOk (Nat.le_refl _) (I2.hok.fresh (Nat.le_refl _))
theorem gts_nil : GTs X [] tYes := ⟨fun _ _ _ H _ I h => wpAny_tests_nil ⟨rfl, H, I, h⟩⟩
theorem appG_ok {pins : List (Addr × Obj)} {s : Shared} {σ : L2.St} {H : Hp} {E : Value → Shared → Prop} {D : Addr} {xs : List V} {y : V} {v : Value} {Q : Value → Shared → Prop} (I : Inv X pins σ H s) (atD : H D = some (.lst xs)) (room : xs.length < sizeLine) (r : RelV y v)
    (h : ∀ s', s'.gens = s.gens → Inv X pins σ (upd H D (.lst (xs ++ [y]))) s' → Q .none s') : wpAny (model X.prog X.w) X.A (call (.builtin "list.append") [.ref D, v]) Q E s := by
  obtain ⟨_, its, n, ri, e⟩ := I.hok D _ atD
  have len := ri.length
  refine append_at (hsz := by rw [List.size_toArray]; omega) e fun h2 sb new => ?_
  refine h { s with heap := h2 } rfl (I.write (t' := s.toks) (by rw [atD]; trivial) (.inl rfl) (fun b u hb q => (sb.2 b hb).trans q) ⟨_, new⟩ ⟨by rw [List.length_append]; exact room, its ++ [v], n + 1, ri.append (.cons r .nil), ?_⟩)
  rw [new]
  simp
theorem lcG_core {pins : List (Addr × Obj)} {s : Shared} {σ : L2.St} {H : Hp} {Q : VK} {elt tg iter : Expr} {ifs : List Expr} {scope : Scope} {own : List (Str × Nat)} {pos pos' : Pos} {wi : TI} {g : TG} {tt : TT} {te : TE} {use : Option (Value → Sem Unit)} {Qf : Value → Shared → Prop}
    (mood : X.calm = true) (nodupN : X.N.Nodup) (I : Inv X pins σ H s) (sourceA : GI X tg iter wi) (ok : BlkOk X.N X.env.scope scope own)
    (targetA : ∀ (s : Shared) (H : Hp) (C : Addr) (cl : List (Str × Addr)) (fp : List Addr), GG (X.blk s H scope (compEnvC scope cl C X.env) fp) tg g) (testsA : ∀ (s : Shared) (H : Hp) (C : Addr) (cl : List (Str × Addr)) (fp : List Addr), GTs (X.blk s H scope (compEnvC scope cl C X.env) fp) ifs tt)
    (elemA : ∀ (s : Shared) (H : Hp) (C : Addr) (cl : List (Str × Addr)) (fp : List Addr), GE (X.blk s H scope (compEnvC scope cl C X.env) fp) elt te) (plainA : ∀ x, foldedSetIterable iter X.env x = pure x)
    (h : tLc wi g tt te (own.map (·.2)) σ H Q)
    (back : ∀ D C s' m H', s'.gens = s.gens → Inv X pins σ H' s' → Q (.ref D) H' → s'.heap.Ns C m → FpOk X pins H' C → compPost (model X.prog X.w) X.A X.xe use Qf (.ref D) C (.ok .next) s') :
    wpAny (model X.prog X.w) X.A (comprehension (.ListComp elt [⟨tg, iter, ifs, 0⟩] scope pos) scope X.env pos' (newList []) false (eval iter X.env) use) Qf X.xe s := by
  have captured : ∀ y ∈ scope.names, y.2 = .free → ∃ c, X.env.cells.lookup y.1 = some c := fun y hy e => by
    rcases ok.free y hy e with k | k
    · exact I.ok.has _ (.inl k)
    · exact I.ok.has _ (.inr k)
  refine wpAny_comprehension_free (use := use) rfl plainA (closure_ok captured) ok.kind (fun y hy e => by rw [ok.uniq y hy, e])
    (thn (sourceA.run pins s σ H _ I h) fun srcV sA gotX => thn gotX fun itV sB hB2 => ?_)
  obtain ⟨gensB, h2⟩ := hB2
  obtain ⟨it, fp, tn, J, HB, e, I2, TG, st2, f2, q⟩ := h2
  have T := TG.base
  subst e
  refine wpAny_newObj_type (newEnv_comp ?_) (Nat.zero_le _)
  generalize atD : sB.heap.objs.size = D
  have freshD : HB D = none := I2.hok.fresh (Nat.le_of_eq atD)
  obtain ⟨W, ⟨mes0, inv0⟩, walk0⟩ := q D freshD
  -- the new list
  generalize laid3 : ({ sB with heap := sB.heap.push { cls := .type "list", data := .seq ([] : List Value).toArray } } : Shared) = sC
  have J3 : Inv X pins σ (upd HB D (.lst [])) sC := by
    rw [← laid3]
    refine I2.laid (t' := sB.toks) (fun b o e => Heap.get?_push_of_some _ e) (Nat.le_of_eq atD) ⟨Nat.zero_le _, [], 0, .nil, ?_⟩
    rw [← atD]
    exact Heap.get?_push_size _ rfl
  have heap3 : sC.heap = sB.heap.push { cls := .type "list", data := .seq ([] : List Value).toArray } := by rw [← laid3]
  have below : ∀ b ∈ fp, b < sB.heap.objs.size := fun b hb => by
    obtain ⟨o, e, _⟩ := T.obj _ _ st2 b hb
    exact Heap.lt_size e
  have roam3 : ∀ b ∈ fp, FpOk X pins (upd HB D (.lst [])) b ∧ b < sC.heap.objs.size := fun b hb => by
    have hlt := below b hb
    refine ⟨⟨?_, (f2 b hb).2⟩, by rw [heap3, Heap.size_push]; exact Nat.lt_succ_of_lt hlt⟩
    rw [upd_ne (by rw [← atD]; exact Nat.ne_of_lt hlt)]
    exact (f2 b hb).1
  have turn3 : tn 0 sC.heap := T.keep _ _ _ st2 fun b _ o e => by rw [heap3]; exact Heap.get?_push_of_some _ e
  have J4 := block_start J3 ok nodupN roam3
  have tgt := targetA sC (upd HB D (.lst [])) sC.heap.objs.size (cellsFrom (sC.heap.objs.size + 1) scope.names (cloFrom X.env.cells scope.names [])) fp
  have tst := testsA sC (upd HB D (.lst [])) sC.heap.objs.size (cellsFrom (sC.heap.objs.size + 1) scope.names (cloFrom X.env.cells scope.names [])) fp
  have elm := elemA sC (upd HB D (.lst [])) sC.heap.objs.size (cellsFrom (sC.heap.objs.size + 1) scope.names (cloFrom X.env.cells scope.names [])) fp
  show codeAny _ _ (.compStart (.ListComp elt [⟨tg, iter, ifs, 0⟩] scope pos) 0 (.ref it) (.ref D) (compEnvC scope (cellsFrom (sC.heap.objs.size + 1) scope.names (cloFrom X.env.cells scope.names [])) sC.heap.objs.size X.env)) (compPost (model X.prog X.w) X.A X.xe use Qf (.ref D) sC.heap.objs.size) { sC with heap := pushCells (sC.heap.push { cls := .type "dict", data := .dict #[] }) scope.names }
  have gensC : sC.gens = s.gens := by
    rw [← laid3]
    exact gensB
  have blkFs : (X.blk sC (upd HB D (.lst [])) scope (compEnvC scope (cellsFrom (sC.heap.objs.size + 1) scope.names (cloFrom X.env.cells scope.names [])) sC.heap.objs.size X.env) fp).fs = frs X.stack := rfl
  have untr : ∀ b ∈ fp, (upd HB D (.lst [])) b = none := fun b hb => (roam3 b hb).1.1
  generalize blkE : compEnvC scope (cellsFrom (sC.heap.objs.size + 1) scope.names (cloFrom X.env.cells scope.names [])) sC.heap.objs.size X.env = ce at J4 tgt tst elm ⊢
  have locE : ce.locals = sC.heap.objs.size := by subst blkE; rfl
  generalize heapE : upd HB D (.lst []) = HC at J3 J4 tgt tst elm inv0 untr roam3
  generalize laid4 : ({ sC with heap := pushCells (sC.heap.push { cls := .type "dict", data := .dict #[] }) scope.names } : Shared) = sD at J4 ⊢
  have turn4 : tn 0 sD.heap := T.keep _ _ _ turn3 fun b _ o e => by rw [← laid4]; exact pushCells_keeps _ _ _ _ (Heap.get?_push_of_some _ e)
  have roams : ∀ {σ' : L2.St} {H' : Hp} {s' : Shared}, Inv (X.blk sC HC scope ce fp) [] σ' H' s' → (∀ b ∈ fp, H' b = none) → ∀ b ∈ fp, FpOk (X.blk sC HC scope ce fp) [] H' b := fun {σ' H' s'} I' nsC b hb =>
    ⟨nsC b hb, (I'.ok.exf b hb).1, I'.ok.exfs b hb, .inl hb, fun x c e => (I'.ok.exf b hb).2 x c e, fun p hp => absurd (show p ∈ ([] : List (Addr × Obj)) ++ [] from hp) (by simp)⟩
  have outer0 : codeAny (model X.prog X.w) X.A (.compLoop (.ListComp elt [⟨tg, iter, ifs, 0⟩] scope pos) 0 (.ref it) (.ref D) ce) (compPost (model X.prog X.w) X.A X.xe use Qf (.ref D) sC.heap.objs.size) sD := by
    refine compLoop_any (fun n s' => ∃ i H', Inv (X.blk sC HC scope ce fp) [] (wipe σ (own.map (·.2))) H' s' ∧ tn i s'.heap ∧ (∀ b ∈ fp, H' b = none) ∧ W i n H' ∧ s'.gens = s.gens) ?_ mes0 ⟨0, HC, J4, turn4, untr, inv0, by rw [← laid4]; exact gensC⟩
    rintro n sE ⟨i, HE, J5, turn5, un5, inv5, gensE⟩
    rcases walk0 i n HE inv5 with ⟨atEnd, done0⟩ | ⟨more, NxA, reach, body0⟩
    · have ended := TG.gdone (X.blk sC HC scope ce fp) rfl rfl rfl mood i [] sE _ HE (fun _ _ => False) J5 (roams J5 un5) turn5 atEnd
      refine wpAny_mono ended (fun r sF hh => ?_) fun _ _ z => False.elim z
      obtain ⟨hr, gensF, J6⟩ := hh
      subst hr
      have J7 : Inv X pins σ HE sF := J3.call' (ch := fp) J6.os J6.base J6.hok J6.bare fun b hb => ⟨(roam3 b hb).1.2.2.2.1, (roam3 b hb).1.2.1, (roam3 b hb).1.2.2.2.2.1, (roam3 b hb).1.2.2.2.2.2⟩
      have freeC : HE sC.heap.objs.size = none := by
        have z : HE ce.locals = none := J6.free
        rw [locE] at z
        exact z
      obtain ⟨m, nsC, _⟩ := J6.loc
      have nsC : sF.heap.Ns ce.locals m := nsC
      rw [locE] at nsC
      exact back D sC.heap.objs.size sF m HE (gensF.trans gensE) J7 done0 nsC (J3.fpOk (Nat.le_refl _) freeC)
    · have given := TG.gitem (X.blk sC HC scope ce fp) rfl rfl rfl mood i [] sE _ HE (fun _ _ => False) J5 (roams J5 un5) turn5 more
      refine wpAny_mono given (fun r sF hh => ?_) fun _ _ z => False.elim z
      obtain ⟨u, hr, got6⟩ := hh
      subst hr
      refine wpAny_mono got6 (fun _ sG hh => ?_) fun _ _ z => False.elim z
      obtain ⟨gensG, x, HG, J7, rel7, yld7, turn7, un7⟩ := hh
      have J7p := J7.pinned (roams J7 un7) (T.obj _ _ turn7)
      refine wpAny_mono (tgt.run _ sG _ HG x u _ J7p rel7 (body0 x HG yld7)) (fun _ sH hh => ?_) fun _ _ z => False.elim z
      obtain ⟨gensH, τ, HH, J8, wip8, go8⟩ := hh
      refine wpAny_mono (tst.run _ sH τ HH _ J8 go8) (fun b sI hh => ?_) fun _ _ z => False.elim z
      obtain ⟨gensI, HI, J9, go9⟩ := hh
      have gens9 : sI.gens = s.gens := gensI.trans (gensH.trans (gensG.trans gensE))
      have close : ∀ {s' : Shared} {H' : Hp}, s'.gens = s.gens → Inv (X.blk sC HC scope ce fp) ([] ++ pinsAt fp sG.heap) τ H' s' → NxA H' →
          ∃ m, m < n ∧ ∃ i H', Inv (X.blk sC HC scope ce fp) [] (wipe σ (own.map (·.2))) H' s' ∧ tn i s'.heap ∧ (∀ b ∈ fp, H' b = none) ∧ W i m H' ∧ s'.gens = s.gens := fun {s' H'} mn I' nextW => by
        obtain ⟨m', lessM, invM⟩ := reach H' nextW
        have kept : ∀ b ∈ fp, ∀ o, sG.heap.get? b = some o → s'.heap.get? b = some o ∧ H' b = none := fun b hb o e =>
          let z := I'.pin (b, o) (List.mem_append_right _ (List.mem_append_right _ (mem_pinsAt hb e)))
          ⟨z.1, z.2.1⟩
        refine ⟨m', lessM, i + 1, H', (I'.unpinned (pins := [])).weak (by rw [← wip8, wipe_length]) (fun j v e => by rw [← wip8] at e; exact (wipe_some e).1), T.keep _ _ _ turn7 fun b hb o e => (kept b hb o e).1, fun b hb => ?_, invM, mn⟩
        obtain ⟨o, e, _⟩ := T.obj _ _ turn7 b hb
        exact (kept b hb o e).2
      cases b with
      | false =>
        simp only [Bool.false_eq_true, if_false] at go9 ⊢
        exact close gens9 J9 go9
      | true =>
        simp only [if_true] at go9 ⊢
        refine wpAny_mono (elm.run _ sI τ HI _ J9 go9) (fun z sQ hh => ?_) fun _ _ z => False.elim z
        obtain ⟨kn17, yv, HQ, J17, rel17, acc, acc17, room17, nextW⟩ := hh
        exact appG_ok (X := X.blk sC HC scope ce fp) J17 acc17 room17 rel17 fun sR gensR J18 => close (gensR.trans (kn17.trans gens9)) J18 nextW
  exact codeAny_compStart_list outer0 (T.self X.A 0 _ _ _ turn4 outer0)
theorem ge_lc {elt tg iter : Expr} {ifs : List Expr} {scope : Scope} {own : List (Str × Nat)} {pos : Pos} {wi : TI} {g : TG} {tt : TT} {te : TE} (mood : X.calm = true) (nodupN : X.N.Nodup) (sourceA : GI X tg iter wi) (ok : BlkOk X.N X.env.scope scope own)
    (targetA : ∀ (s : Shared) (H : Hp) (C : Addr) (cl : List (Str × Addr)) (fp : List Addr), GG (X.blk s H scope (compEnvC scope cl C X.env) fp) tg g) (testsA : ∀ (s : Shared) (H : Hp) (C : Addr) (cl : List (Str × Addr)) (fp : List Addr), GTs (X.blk s H scope (compEnvC scope cl C X.env) fp) ifs tt)
    (elemA : ∀ (s : Shared) (H : Hp) (C : Addr) (cl : List (Str × Addr)) (fp : List Addr), GE (X.blk s H scope (compEnvC scope cl C X.env) fp) elt te) (plainA : ∀ x, foldedSetIterable iter X.env x = pure x := by intro _; rfl) :
    GE X (.ListComp elt [⟨tg, iter, ifs, 0⟩] scope pos) (tLc wi g tt te (own.map (·.2))) := by
  refine ⟨fun pins s σ H Q I h => ?_⟩
  rw [arm_eval_ListComp]
  refine lcG_core mood nodupN I sourceA ok targetA testsA elemA plainA h fun D C s' m H' gens' I' q nsC f => ⟨m, nsC, fun h'' sb => ?_⟩
  obtain ⟨f0, f1, f2, roam3, f4, f5⟩ := f
  exact ⟨gens', .ref D, H', I'.turned (t' := s'.toks) (fun b o hb e => (sb.2 b hb).trans e) f0 f1 roam3 f4 f5, rfl, q⟩
theorem gg_put {i : Nat} {x : Str} {pos : Pos} (hN : X.N.Nodup) (hi : X.N[i]? = some x) (hx : Loc X.env.scope x) (hf : X.fn x = true ∨ X.env.scope.names.lookup x = some .local := by first | exact .inl rfl | exact .inr rfl | assumption) : GG X (.Name x pos) (gName i) := by
  refine ⟨fun pins s σ H v u Q I r h => ?_⟩
  exact wpAny_assign_Name (putg_ok I hN hi hx r (fun s' g' I' _ => ⟨g', _, H, I', h⟩) hf)
/-- for tg in e: body -/
theorem gst_for {iter : Expr} {body : List Stmt} {wi : TI} {g : TG} {tb : TS} {pos : Pos} (own : PassesOwn (model X.prog X.w) X.A X.env X.xe) (mood : X.calm = true) (src : GI X tg iter wi) (tgt : GG X tg g) (bod : GSts X body tb)
    (hs : ∀ x, foldedSetIterable iter X.env x = pure x := by intro _; rfl) : GSt X (.For tg iter body [] pos) (tFor wi g tb) := by
  refine ⟨fun pins s σ H D I read => ?_⟩
  refine wpAny_For (thn (src.run pins s σ H _ I read) fun v s1 h1 => thn h1 fun itv s2 got2 => ?_) hs
  obtain ⟨gens2, it, fp, tn, J, H2, e, J2, TG, turn2, roam2, W, ⟨mes0, inv0⟩, walk0⟩ := got2
  subst e
  have T := TG.base
  have roams : ∀ {H' : Hp}, (∀ b ∈ fp, H' b = none) → ∀ b ∈ fp, FpOk X pins H' b := fun un b hb => ⟨un b hb, (roam2 b hb).2⟩
  refine codeAny_forLoop_any (fun n s' => ∃ i σ' H', s'.gens = s.gens ∧ Inv X pins σ' H' s' ∧ tn i s'.heap ∧ (∀ b ∈ fp, H' b = none) ∧ W i n σ' H') ?_ mes0 ⟨0, σ, H2, gens2, J2, turn2, fun b hb => (roam2 b hb).1, inv0⟩
  rintro n s3 ⟨i, σ3, H3, gens3, J3, turn3, un3, inv3⟩
  rcases walk0 i n σ3 H3 inv3 with ⟨atEnd, done0⟩ | ⟨more, N, reach, body0⟩
  · refine wpAny_passesOwn own (thn (TG.gdone X rfl rfl rfl mood i pins s3 σ3 H3 X.xe J3 (roams un3) turn3 atEnd) fun r s4 got4 => ?_)
    obtain ⟨isr, gens4, J4⟩ := got4
    subst isr
    exact wpAny_execs_nil ⟨gens4.trans gens3, σ3, H3, J4, done0⟩
  · refine wpAny_passesOwn own (thn (TG.gitem X rfl rfl rfl mood i pins s3 σ3 H3 X.xe J3 (roams un3) turn3 more) fun r s4 got4 => ?_)
    obtain ⟨u, isr, got5⟩ := got4
    subst isr
    refine wpAny_passesOwn own (thn got5 fun _ s5 got5 => ?_)
    obtain ⟨gens5, x, H5, J5, rel5, yld5, turn5, un5⟩ := got5
    have J5p := J5.pinned (roams un5) (T.obj _ _ turn5)
    refine wpAny_passesOwn own (thn (tgt.run _ s5 σ3 H5 x u _ J5p rel5 (body0 x H5 yld5)) fun _ s6 got6 => ?_)
    obtain ⟨gens6, σ6, H6, J6, go6⟩ := got6
    refine wpAny_passesOwn own (thn (bod.run _ s6 σ6 H6 _ J6 go6) fun f s7 got7 => ?_)
    obtain ⟨gens7, go7⟩ := got7
    have gensX : s7.gens = s.gens := gens7.trans (gens6.trans (gens5.trans gens3))
    have again : ∀ {σ7 : L2.St} {H7 : Hp}, Inv X (pins ++ pinsAt fp s5.heap) σ7 H7 s7 → N σ7 H7 → ∃ m, m < n ∧ ∃ i σ' H', s7.gens = s.gens ∧ Inv X pins σ' H' s7 ∧ tn i s7.heap ∧ (∀ b ∈ fp, H' b = none) ∧ W i m σ' H' := fun {σ7 H7} J7 nextW => by
      obtain ⟨mesM, lessM, invM⟩ := reach σ7 H7 nextW
      refine ⟨mesM, lessM, i + 1, σ7, H7, gensX, J7.unpinned, T.keep _ _ _ turn5 fun b hb o e => (J7.pin (b, o) (List.mem_append_right _ (List.mem_append_right _ (mem_pinsAt hb e)))).1, fun b hb => ?_, invM⟩
      obtain ⟨o, e, _⟩ := T.obj _ _ turn5 b hb
      exact (J7.pin (b, o) (List.mem_append_right _ (List.mem_append_right _ (mem_pinsAt hb e)))).2.1
    cases f with
    | next => obtain ⟨σ7, H7, J7, nextW⟩ := go7; exact again J7 nextW
    | cont => obtain ⟨σ7, H7, J7, nextW⟩ := go7; exact again J7 nextW
    | brk => obtain ⟨σ7, H7, J7, q7⟩ := go7; exact ⟨gensX, σ7, H7, J7.unpinned, q7⟩
    | ret v => obtain ⟨x7, σ7, H7, J7, r7, q7⟩ := go7; exact ⟨gensX, x7, σ7, H7, J7.unpinned, r7, q7⟩
/-! ### operators, min, sorted -/
theorem ge_sub {a b : Expr} {ta tb : TE} {pos : Pos} (ha : GE X a ta) (hb : GE X b tb) : GE X (.BinOp a .Sub b pos) (tOp (rI0 fun i j => .int (i - j)) ta tb) := by
  refine ⟨fun pins s σ H Q I h => ?_⟩
  refine wpAny_BinOp (thn (ha.run pins s σ H _ I h) fun v s1 hh => ?_)
  obtain ⟨g1, x, H1, I1, r1, q1⟩ := hh
  refine thn (hb.run pins s1 σ H1 _ I1 q1) fun u s2 hh => ?_
  obtain ⟨g2, y, H2, I2, r2, i, j, rfl, rfl, q⟩ := hh
  obtain ⟨t1, rfl⟩ := r1
  obtain ⟨t2, rfl⟩ := r2
  exact sub_int ⟨g2.trans g1, .int (i - j), H2, I2.tok _, ⟨_, rfl⟩, q⟩
theorem ge_mul {a b : Expr} {ta tb : TE} {pos : Pos} (ha : GE X a ta) (hb : GE X b tb) : GE X (.BinOp a .Mult b pos) (tOp (rI CMul fun i j => .int (i * j)) ta tb) := by
  refine ⟨fun pins s σ H Q I h => ?_⟩
  refine wpAny_BinOp (thn (ha.run pins s σ H _ I h) fun v s1 hh => ?_)
  obtain ⟨g1, x, H1, I1, r1, q1⟩ := hh
  refine thn (hb.run pins s1 σ H1 _ I1 q1) fun u s2 hh => ?_
  obtain ⟨g2, y, H2, I2, r2, i, j, rfl, rfl, c, q⟩ := hh
  obtain ⟨t1, rfl⟩ := r1
  obtain ⟨t2, rfl⟩ := r2
  exact mul_int ⟨g2.trans g1, .int (i * j), H2, I2.tok _, ⟨_, rfl⟩, q⟩ c.ok
theorem cg_min2 (mood : X.calm = true) : CallG X (.builtin "min") (fun xs H Q => ∃ i j, xs = [.int i, .int j] ∧ Q (.int (if j < i then j else i)) H) := by
  intro pins s σ H xs us Q I r h
  obtain ⟨i, j, rfl, q⟩ := h
  obtain ⟨u, u2, rfl, ⟨t, rfl⟩, ⟨t2, rfl⟩⟩ := vals2 r
  refine min_two_ints (I.ok.hd mood) fun h2 tk k => ⟨rfl, _, H, I.kept k, ?_, q⟩
  by_cases lt : j < i
  · rw [if_pos lt, if_pos lt]
    exact ⟨_, rfl⟩
  · rw [if_neg lt, if_neg lt]
    exact ⟨_, rfl⟩
theorem cg_sortedI : CallG X (.builtin "sorted") (rSortedI X.K) := by
  intro pins s σ H vs us Q I r h
  obtain ⟨a, ns, rfl, hs, q⟩ := h
  obtain ⟨its, rv, pl, room⟩ := I.list hs
  rw [Vals.ref1 r]
  have whole := rv.ints
  refine SrtO.sorted_ord SrtO.swo_int pl.isList (by rw [← rv.length]; exact room) (fun h2 _ _ _ _ => SrtO.ints_sortable whole h2) fun out h1 h2 => ?_
  obtain ⟨k1, k2, k3⟩ := SrtO.ints_out whole h1 h2
  obtain ⟨ep, new⟩ := PyProof.Rows.sortedAll_at s.heap its out.toArray
  have len : ((out.map SrtO.iv).map V.int).length ≤ sizeLine := by
    rw [List.length_map, k2.length_eq]
    rw [List.length_map] at room
    exact room
  exact ⟨rfl, .ref _, upd H (s.heap.objs.size + 1) (.lst ((out.map SrtO.iv).map V.int)), I.laid (t' := s.toks) (fun _ _ => PyProof.Rows.sortedAll_old) (Nat.le_succ _) ⟨len, out, ep, vals_of_ints k1, new⟩, rfl, q _ _ k2 k3 (I.hok.fresh (Nat.le_succ _))⟩
end
section
variable {X : Cx}
theorem lc2G_core {pins : List (Addr × Obj)} {s : Shared} {σ : L2.St} {H : Hp} {Q : VK} {elt tg iter tg1 iter1 : Expr} {ifs ifs1 : List Expr} {scope : Scope} {own : List (Str × Nat)} {vs1 : List Nat} {pos pos' : Pos} {wi wi1 : TI} {g g1 : TG} {tt tt1 : TT} {te : TE} {use : Option (Value → Sem Unit)} {Qf : Value → Shared → Prop}
    (mood : X.calm = true) (nodN : X.N.Nodup) (I : Inv X pins σ H s) (srcA : GI X tg iter wi) (ok : BlkOk X.N X.env.scope scope own) (subB : ∀ i ∈ vs1, i ∈ own.map (·.2))
    (tgA : ∀ (s : Shared) (H : Hp) (C : Addr) (cl : List (Str × Addr)) (fp : List Addr), GG (X.blk s H scope (compEnvC scope cl C X.env) fp) tg g) (tsA : ∀ (s : Shared) (H : Hp) (C : Addr) (cl : List (Str × Addr)) (fp : List Addr), GTs (X.blk s H scope (compEnvC scope cl C X.env) fp) ifs tt)
    (elA : ∀ (s : Shared) (H : Hp) (C : Addr) (cl : List (Str × Addr)) (fp : List Addr), GE (X.blk s H scope (compEnvC scope cl C X.env) fp) elt te) (plA : ∀ x, foldedSetIterable iter X.env x = pure x)
    (srcB : ∀ (s : Shared) (H : Hp) (C : Addr) (cl : List (Str × Addr)) (fp : List Addr), GI (X.blk s H scope (compEnvC scope cl C X.env) fp) tg1 iter1 wi1)
    (tgB : ∀ (s : Shared) (H : Hp) (C : Addr) (cl : List (Str × Addr)) (fp : List Addr), GG (X.blk s H scope (compEnvC scope cl C X.env) fp) tg1 g1)
    (tsB : ∀ (s : Shared) (H : Hp) (C : Addr) (cl : List (Str × Addr)) (fp : List Addr), GTs (X.blk s H scope (compEnvC scope cl C X.env) fp) ifs1 tt1)
    (plB : ∀ env x, foldedSetIterable iter1 env x = pure x)
    (read : tLc2 wi g tt wi1 g1 tt1 te (own.map (·.2)) vs1 σ H Q)
    (back : ∀ D C s' m H', s'.gens = s.gens → Inv X pins σ H' s' → Q (.ref D) H' → s'.heap.Ns C m → FpOk X pins H' C → compPost (model X.prog X.w) X.A X.xe use Qf (.ref D) C (.ok .next) s') :
    wpAny (model X.prog X.w) X.A  (comprehension (.ListComp elt [⟨tg, iter, ifs, 0⟩, ⟨tg1, iter1, ifs1, 0⟩] scope pos) scope X.env pos' (newList []) false (eval iter X.env) use) Qf X.xe s := by
  have capt : ∀ y ∈ scope.names, y.2 = .free → ∃ c, X.env.cells.lookup y.1 = some c := fun y hy e => by
    rcases ok.free y hy e with z | z
    · exact I.ok.has _ (.inl z)
    · exact I.ok.has _ (.inr z)
  refine wpAny_comprehension_free (use := use) rfl plA (closure_ok capt) ok.kind (fun y hy e => by rw [ok.uniq y hy, e])
    (thn (srcA.run pins s σ H _ I read) fun srcV sA gotX => thn gotX fun itV sB gotB => ?_)
  obtain ⟨gensB, it, fp, tn, J, H2, e, J2, TG, turn2, roam2, q⟩ := gotB
  have T := TG.base
  subst e
  refine wpAny_newObj_type (newEnv_comp ?_) (Nat.zero_le _)
  generalize atD : sB.heap.objs.size = D
  have freeD : H2 D = none := J2.hok.fresh (Nat.le_of_eq atD)
  obtain ⟨W, ⟨mes0, inv0⟩, walk0⟩ := q D freeD
  -- the new list
  generalize laid3 : ({ sB with heap := sB.heap.push { cls := .type "list", data := .seq ([] : List Value).toArray } } : Shared) = sC
  have gensC : sC.gens = s.gens := by rw [← laid3]; exact gensB
  have J3 : Inv X pins σ (upd H2 D (.lst [])) sC := by
    rw [← laid3]
    refine J2.laid (t' := sB.toks) (fun b o e => Heap.get?_push_of_some _ e) (Nat.le_of_eq atD) ⟨Nat.zero_le _, [], 0, .nil, ?_⟩
    rw [← atD]
    exact (Heap.get?_push_size _ rfl)
  have heap3 : sC.heap = sB.heap.push { cls := .type "list", data := .seq ([] : List Value).toArray } := by rw [← laid3]
  have below : ∀ b ∈ fp, b < sB.heap.objs.size := fun b hb => by
    obtain ⟨o, e, _⟩ := T.obj _ _ turn2 b hb
    exact Heap.lt_size e
  have roam3 : ∀ b ∈ fp, FpOk X pins (upd H2 D (.lst [])) b ∧ b < sC.heap.objs.size := fun b hb => by
    have lowb := below b hb
    refine ⟨⟨?_, (roam2 b hb).2⟩, by rw [heap3, Heap.size_push]; exact Nat.lt_succ_of_lt lowb⟩
    rw [upd_ne (by rw [← atD]; exact Nat.ne_of_lt lowb)]
    exact (roam2 b hb).1
  have turn3 : tn 0 sC.heap := T.keep _ _ _ turn2 fun b _ o e => by rw [heap3]; exact Heap.get?_push_of_some _ e
  have J4 := block_start J3 ok nodN roam3
  have tgt := tgA sC (upd H2 D (.lst [])) sC.heap.objs.size (cellsFrom (sC.heap.objs.size + 1) scope.names (cloFrom X.env.cells scope.names [])) fp
  have tst := tsA sC (upd H2 D (.lst [])) sC.heap.objs.size (cellsFrom (sC.heap.objs.size + 1) scope.names (cloFrom X.env.cells scope.names [])) fp
  have elm := elA sC (upd H2 D (.lst [])) sC.heap.objs.size (cellsFrom (sC.heap.objs.size + 1) scope.names (cloFrom X.env.cells scope.names [])) fp
  have src1 := srcB sC (upd H2 D (.lst [])) sC.heap.objs.size (cellsFrom (sC.heap.objs.size + 1) scope.names (cloFrom X.env.cells scope.names [])) fp
  have tgt1 := tgB sC (upd H2 D (.lst [])) sC.heap.objs.size (cellsFrom (sC.heap.objs.size + 1) scope.names (cloFrom X.env.cells scope.names [])) fp
  have tst1 := tsB sC (upd H2 D (.lst [])) sC.heap.objs.size (cellsFrom (sC.heap.objs.size + 1) scope.names (cloFrom X.env.cells scope.names [])) fp
  show codeAny _ _ (.compStart (.ListComp elt [⟨tg, iter, ifs, 0⟩, ⟨tg1, iter1, ifs1, 0⟩] scope pos) 0 (.ref it) (.ref D) (compEnvC scope (cellsFrom (sC.heap.objs.size + 1) scope.names (cloFrom X.env.cells scope.names [])) sC.heap.objs.size X.env)) (compPost (model X.prog X.w) X.A X.xe use Qf (.ref D) sC.heap.objs.size) { sC with heap := pushCells (sC.heap.push { cls := .type "dict", data := .dict #[] }) scope.names }
  have untr : ∀ b ∈ fp, (upd H2 D (.lst [])) b = none := fun b hb => (roam3 b hb).1.1
  generalize blkE : compEnvC scope (cellsFrom (sC.heap.objs.size + 1) scope.names (cloFrom X.env.cells scope.names [])) sC.heap.objs.size X.env = ce at J4 tgt tst elm src1 tgt1 tst1 ⊢
  have locE : ce.locals = sC.heap.objs.size := by subst blkE; rfl
  generalize heapE : upd H2 D (.lst []) = H3 at J3 J4 tgt tst elm src1 tgt1 tst1 inv0 untr roam3
  generalize laid4 : ({ sC with heap := pushCells (sC.heap.push { cls := .type "dict", data := .dict #[] }) scope.names } : Shared) = sD at J4 ⊢
  have gensD : sD.gens = s.gens := by rw [← laid4]; exact gensC
  have turn4 : tn 0 sD.heap := T.keep _ _ _ turn3 fun b _ o e => by rw [← laid4]; exact pushCells_keeps _ _ _ _ (Heap.get?_push_of_some _ e)
  have roams : ∀ {σ' : L2.St} {H' : Hp} {s' : Shared}, Inv (X.blk sC H3 scope ce fp) [] σ' H' s' → (∀ b ∈ fp, H' b = none) → ∀ b ∈ fp, FpOk (X.blk sC H3 scope ce fp) [] H' b := fun {σ' H' s'} Iq nsC b hb =>
    ⟨nsC b hb, (Iq.ok.exf b hb).1, Iq.ok.exfs b hb, .inl hb, fun x c e => (Iq.ok.exf b hb).2 x c e, fun p hp => absurd (show p ∈ ([] : List (Addr × Obj)) ++ [] from hp) (by simp)⟩
  have outer0 : codeAny (model X.prog X.w) X.A (.compLoop (.ListComp elt [⟨tg, iter, ifs, 0⟩, ⟨tg1, iter1, ifs1, 0⟩] scope pos) 0 (.ref it) (.ref D) ce) (compPost (model X.prog X.w) X.A X.xe use Qf (.ref D) sC.heap.objs.size) sD := by
    refine compLoop2_out (plB ce) (fun n s' => ∃ i H', Inv (X.blk sC H3 scope ce fp) [] (wipe σ (own.map (·.2))) H' s' ∧ tn i s'.heap ∧ (∀ b ∈ fp, H' b = none) ∧ W i n H' ∧ s'.gens = s.gens) ?_ mes0 ⟨0, H3, J4, turn4, untr, inv0, gensD⟩
    rintro n sE ⟨i, H5, J5, turn5, un5, inv5, gensE⟩
    rcases walk0 i n H5 inv5 with ⟨atEnd, done0⟩ | ⟨more, NxA, reach, body0⟩
    · have ended := TG.gdone (X.blk sC H3 scope ce fp) rfl rfl rfl mood i [] sE _ H5 (fun _ _ => False) J5 (roams J5 un5) turn5 atEnd
      refine thnF ended fun r sF ⟨isr, gensF, J6⟩ => ?_
      subst isr
      -- the def's own context again
      have J7 : Inv X pins σ H5 sF := J3.call' (ch := fp) J6.os J6.base J6.hok J6.bare fun b hb => ⟨(roam3 b hb).1.2.2.2.1, (roam3 b hb).1.2.1, (roam3 b hb).1.2.2.2.2.1, (roam3 b hb).1.2.2.2.2.2⟩
      have freeC : H5 sC.heap.objs.size = none := by
        have z : H5 ce.locals = none := J6.free
        rw [locE] at z
        exact z
      obtain ⟨m, nsC, _⟩ := J6.loc
      have nsC : sF.heap.Ns ce.locals m := nsC
      rw [locE] at nsC
      exact back D sC.heap.objs.size sF m H5 (gensF.trans gensE) J7 done0 nsC (J3.fpOk (Nat.le_refl _) freeC)
    · have given := TG.gitem (X.blk sC H3 scope ce fp) rfl rfl rfl mood i [] sE _ H5 (fun _ _ => False) J5 (roams J5 un5) turn5 more
      refine thnF given fun r sF ⟨u, isr, got6⟩ => ?_
      subst isr
      refine thnF got6 fun _ sG ⟨gensG, x, H7, J7, rel7, yld7, turn7, un7⟩ => ?_
      have J7p := J7.pinned (roams J7 un7) (T.obj _ _ turn7)
      refine thnF (tgt.run _ sG _ H7 x u _ J7p rel7 (body0 x H7 yld7)) fun _ sH ⟨gensH, σ8, H8, J8, wip8, go8⟩ => ?_
      refine thnF (tst.run _ sH σ8 H8 _ J8 go8) fun b sI ⟨gensI, H9, J9, go9⟩ => ?_
      have gensJ : sI.gens = s.gens := gensI.trans (gensH.trans (gensG.trans gensE))
      have close : ∀ {σ9 : L2.St} {s' : Shared} {H' : Hp}, s'.gens = s.gens → Inv (X.blk sC H3 scope ce fp) ([] ++ pinsAt fp sG.heap) σ9 H' s' → (wipe σ (own.map (·.2))).length = σ9.length → (∀ (j : Nat) v, (wipe σ (own.map (·.2)))[j]? = some (some v) → σ9[j]? = some (some v)) → NxA H' →
          ∃ m, m < n ∧ ∃ i H', Inv (X.blk sC H3 scope ce fp) [] (wipe σ (own.map (·.2))) H' s' ∧ tn i s'.heap ∧ (∀ b ∈ fp, H' b = none) ∧ W i m H' ∧ s'.gens = s.gens := fun {σ9 s' H'} gensX Iq lenS keepS nextW => by
        obtain ⟨mesM, lessM, invM⟩ := reach H' nextW
        have keptP : ∀ b ∈ fp, ∀ o, sG.heap.get? b = some o → s'.heap.get? b = some o ∧ H' b = none := fun b hb o e =>
          let z := Iq.pin (b, o) (List.mem_append_right _ (List.mem_append_right _ (mem_pinsAt hb e)))
          ⟨z.1, z.2.1⟩
        refine ⟨mesM, lessM, i + 1, H', (Iq.unpinned (pins := [])).weak lenS keepS, T.keep _ _ _ turn7 fun b hb o e => (keptP b hb o e).1, fun b hb => ?_, invM, gensX⟩
        obtain ⟨o, e, _⟩ := T.obj _ _ turn7 b hb
        exact (keptP b hb o e).2
      have len8 : (wipe σ (own.map (·.2))).length = σ8.length := by rw [← wip8, wipe_length]
      have keep8 : ∀ (j : Nat) v, (wipe σ (own.map (·.2)))[j]? = some (some v) → σ8[j]? = some (some v) := fun j v e => by
        rw [← wip8] at e
        exact (wipe_some e).1
      have keep9 : ∀ (j : Nat) v, (wipe σ (own.map (·.2)))[j]? = some (some v) → (wipe σ8 vs1)[j]? = some (some v) := fun j v e => by
        rw [← wip8] at e
        obtain ⟨e1, notv⟩ := wipe_some e
        rw [wipe_out fun z => notv (subB j z)]
        exact e1
      cases b with
      | false =>
        simp only [Bool.false_eq_true, if_false] at go9 ⊢
        exact close gensJ J9 len8 keep8 go9
      | true =>
        simp only [if_true] at go9 ⊢
        refine thnF (src1.run _ sI σ8 H9 _ J9 go9) fun srcV sJ gotX => thnF gotX fun itV sK got11 => ?_
        obtain ⟨gensK, it1, fp1, tn1, J1, H11, e1, J11, TBG, turnB, roamB, W1, ⟨mesB0, invB0⟩, walk1⟩ := got11
        have TB := TBG.base
        subst e1
        -- the inner outer0
        have roams1 : ∀ {H' : Hp}, (∀ b ∈ fp1, H' b = none) → ∀ b ∈ fp1, FpOk (X.blk sC H3 scope ce fp) ([] ++ pinsAt fp sG.heap) H' b := fun nsC b hb => ⟨nsC b hb, (roamB b hb).2⟩
        have inner1 : codeAny (model X.prog X.w) X.A (.compLoop (.ListComp elt [⟨tg, iter, ifs, 0⟩, ⟨tg1, iter1, ifs1, 0⟩] scope pos) 1 (.ref it1) (.ref D) ce)
            (fun r s' => match r with
              | .ok _ => ∃ m, m < n ∧ ∃ i H', Inv (X.blk sC H3 scope ce fp) [] (wipe σ (own.map (·.2))) H' s' ∧ tn i s'.heap ∧ (∀ b ∈ fp, H' b = none) ∧ W i m H' ∧ s'.gens = s.gens
              | .error _ => False) sK := by
          refine compLoop2_in (fun k s' => ∃ j H', Inv (X.blk sC H3 scope ce fp) ([] ++ pinsAt fp sG.heap) (wipe σ8 vs1) H' s' ∧ tn1 j s'.heap ∧ (∀ b ∈ fp1, H' b = none) ∧ W1 j k H' ∧ s'.gens = s.gens) ?_ mesB0 ⟨0, H11, J11.weak (wipe_length _ _) (fun j v e => (wipe_some e).1), turnB, fun b hb => (roamB b hb).1, invB0, gensK.trans gensJ⟩
          rintro k sL ⟨j, H12, J12, turnB2, unB, invB2, gensL⟩
          rcases walk1 j k H12 invB2 with ⟨endB, nextB⟩ | ⟨moreB, NxB, reachB, bodyB⟩
          · refine thnF (TBG.gdone (X.blk sC H3 scope ce fp) rfl rfl rfl mood j _ sL (wipe σ8 vs1) H12 (fun _ _ => False) J12 (roams1 unB) turnB2 endB) fun r sM ⟨isr, gensM, J13⟩ => ?_
            subst isr
            exact close (gensM.trans gensL) J13 (len8.trans (wipe_length σ8 vs1).symm) keep9 nextB
          · refine thnF (TBG.gitem (X.blk sC H3 scope ce fp) rfl rfl rfl mood j _ sL (wipe σ8 vs1) H12 (fun _ _ => False) J12 (roams1 unB) turnB2 moreB) fun r sM ⟨u1, isr, got13⟩ => ?_
            subst isr
            refine thnF got13 fun _ sN ⟨gensN, x1, H14, J14, rel14, yld14, turn14, un14⟩ => ?_
            have J14p := J14.pinned (roams1 un14) (TB.obj _ _ turn14)
            refine thnF (tgt1.run _ sN (wipe σ8 vs1) H14 x1 u1 _ J14p rel14 (bodyB x1 H14 yld14)) fun _ sO ⟨gensO, σ15, H15, J15, wip15, go15⟩ => ?_
            refine thnF (tst1.run _ sO σ15 H15 _ J15 go15) fun b1 sP ⟨gensP, H16, J16, go16⟩ => ?_
            have gensQ : sP.gens = s.gens := gensP.trans (gensO.trans (gensN.trans gensL))
            have closeB : ∀ {s' : Shared} {H' : Hp}, s'.gens = s.gens → Inv (X.blk sC H3 scope ce fp) (([] ++ pinsAt fp sG.heap) ++ pinsAt fp1 sN.heap) σ15 H' s' → NxB H' → ∃ m, m < k ∧ ∃ j H', Inv (X.blk sC H3 scope ce fp) ([] ++ pinsAt fp sG.heap) (wipe σ8 vs1) H' s' ∧ tn1 j s'.heap ∧ (∀ b ∈ fp1, H' b = none) ∧ W1 j m H' ∧ s'.gens = s.gens := fun {s' H'} gensX Iq nextW => by
              obtain ⟨mesM, lessM, invM⟩ := reachB H' nextW
              have keptP : ∀ b ∈ fp1, ∀ o, sN.heap.get? b = some o → s'.heap.get? b = some o ∧ H' b = none := fun b hb o e =>
                let z := Iq.pin (b, o) (List.mem_append_right _ (List.mem_append_right _ (mem_pinsAt hb e)))
                ⟨z.1, z.2.1⟩
              refine ⟨mesM, lessM, j + 1, H', Iq.unpinned.weak (by rw [← wip15, wipe_length]) (fun j v e => by rw [← wip15] at e; exact (wipe_some e).1), TB.keep _ _ _ turn14 fun b hb o e => (keptP b hb o e).1, fun b hb => ?_, invM, gensX⟩
              obtain ⟨o, e, _⟩ := TB.obj _ _ turn14 b hb
              exact (keptP b hb o e).2
            cases b1 with
            | false =>
              simp only [Bool.false_eq_true, if_false] at go16 ⊢
              exact closeB gensQ J16 go16
            | true =>
              simp only [if_true] at go16 ⊢
              refine thnF (elm.run _ sP σ15 H16 _ J16 go16) fun z sQ ⟨gensR, yv, H17, J17, rel17, acc, acc17, room17, nextW⟩ => ?_
              exact appG_ok (X := X.blk sC H3 scope ce fp) J17 acc17 room17 rel17 fun sR gensS J18 => closeB (gensS.trans (gensR.trans gensQ)) J18 nextW
        exact compStart1_ok inner1 (TB.self X.A 0 _ _ _ turnB inner1)
  exact codeAny_compStart_list outer0 (T.self X.A 0 _ _ _ turn4 outer0)
theorem gst_setLc2 {i : Nat} {y : Str} {py : Pos} {elt tg iter tg1 iter1 : Expr} {ifs ifs1 : List Expr} {scope : Scope} {own : List (Str × Nat)} {vs1 : List Nat} {pos spos : Pos} {wi wi1 : TI} {g g1 : TG} {tt tt1 : TT} {te : TE} (mood : X.calm = true) (nodN : X.N.Nodup) (hy : X.N[i]? = some y) (hyl : X.env.scope.names.lookup y = some .local) (hyk : X.env.kindOf y = some .local)
    (hsw : swapsWith (.ListComp elt [⟨tg, iter, ifs, 0⟩, ⟨tg1, iter1, ifs1, 0⟩] scope pos) (some (.Name y py)) spos.line X.env = pure true) (srcA : GI X tg iter wi) (ok : BlkOk X.N X.env.scope scope own) (subB : ∀ i ∈ vs1, i ∈ own.map (·.2))
    (tgA : ∀ (s : Shared) (H : Hp) (C : Addr) (cl : List (Str × Addr)) (fp : List Addr), GG (X.blk s H scope (compEnvC scope cl C X.env) fp) tg g) (tsA : ∀ (s : Shared) (H : Hp) (C : Addr) (cl : List (Str × Addr)) (fp : List Addr), GTs (X.blk s H scope (compEnvC scope cl C X.env) fp) ifs tt)
    (srcB : ∀ (s : Shared) (H : Hp) (C : Addr) (cl : List (Str × Addr)) (fp : List Addr), GI (X.blk s H scope (compEnvC scope cl C X.env) fp) tg1 iter1 wi1)
    (tgB : ∀ (s : Shared) (H : Hp) (C : Addr) (cl : List (Str × Addr)) (fp : List Addr), GG (X.blk s H scope (compEnvC scope cl C X.env) fp) tg1 g1) (tsB : ∀ (s : Shared) (H : Hp) (C : Addr) (cl : List (Str × Addr)) (fp : List Addr), GTs (X.blk s H scope (compEnvC scope cl C X.env) fp) ifs1 tt1)
    (elA : ∀ (s : Shared) (H : Hp) (C : Addr) (cl : List (Str × Addr)) (fp : List Addr), GE (X.blk s H scope (compEnvC scope cl C X.env) fp) elt te) (plA : ∀ x, foldedSetIterable iter X.env x = pure x := by intro _; rfl) (plB : ∀ env x, foldedSetIterable iter1 env x = pure x := by intro _ _; rfl) :
    GSt X (.Assign [.Name y py] (.ListComp elt [⟨tg, iter, ifs, 0⟩, ⟨tg1, iter1, ifs1, 0⟩] scope pos) spos) (tAsg (tLc2 wi g tt wi1 g1 tt1 te (own.map (·.2)) vs1) (gName i)) := by
  refine ⟨fun pins s σ H D I read => ?_⟩
  rw [exec_Assign_Name_used _ _ _ _ hsw]
  refine wpAny_bind (wpAny_standAt (wpAny_bind ?_))
  show wpAny _ X.A (do let _ ← comprehension (.ListComp elt [⟨tg, iter, ifs, 0⟩, ⟨tg1, iter1, ifs1, 0⟩] scope pos) scope X.env (firstIterPos [⟨tg, iter, ifs, 0⟩, ⟨tg1, iter1, ifs1, 0⟩] pos)  (newList []) false (eval iter X.env) (some (assign (.Name y py) X.env))) _ _ s
  have got : tLc2 wi g tt wi1 g1 tt1 te (own.map (·.2)) vs1 σ H (fun x H1 => gName i x σ H1 D.nx) := read
  refine wpAny_bind (thn (lc2G_core (Qf := fun _ s' => s'.gens = s.gens ∧ SP X pins D .next s') mood nodN I srcA ok subB tgA tsA elA plA srcB tgB tsB plB got fun L C s' m H' gens' J q nsC f => ?_) fun _ s' hq => wpAny_pure (wpAny_pure hq))
  show wpAny _ _ (assign (.Name y py) X.env (.ref L)) _ _ _
  refine wpAny_assign_Name (putg_ok (v := V.ref L) J nodN hy (.inl hyl) rfl (fun s2 g2 J2 sb => ?_) (.inr hyl))
  obtain ⟨f0, f1, f2, f3, f4, f5⟩ := f
  obtain ⟨a, sb, away⟩ := sb
  have apart : C ≠ a := by
    rcases away with z | z
    · rw [z]; exact f1
    · exact fun e => f4 y a z e.symm
  refine ⟨m, nsC.sameBut sb apart, fun h3 sb3 => ?_⟩
  exact ⟨g2.trans gens', _, H', J2.turned (t' := s2.toks) (fun b o hb e => (sb3.2 b hb).trans e) f0 f1 f3 f4 f5, q⟩
end
end Sq
set_option Elab.async false
set_option linter.all false
set_option maxRecDepth 100000
set_option maxHeartbeats 1000000
/-! range(lo, hi) of ints of any size; order of lists; list(g(..)). -/
namespace L2
open PySem PySem.Spec PyProof.Rows
end L2
set_option Elab.async false
set_option linter.all false
set_option maxRecDepth 100000
set_option maxHeartbeats 1000000
namespace Sq
open PySem PySem.Spec PyProof.Rows L2
/-! ### generator defs -/
theorem passG {X : Cx} : Passes (CX X.prog X.w) X E0 := fun pins σ H s e s' I h => by
  obtain ⟨a, B, H', cls, d, _, _, _, _, _, _, _, z⟩ := h
  exact z.elim
structure Dg (P : Program) (w : World) (K : PySem.W.Frag) (mg : Str → Option Value) (base : Heap) (k : Nat) (x : Str) (ps : List Str) (sp : SpG) : Prop where
  ex : ∃ f fd, GFn P w K mg base k f fd ps sp ∧ mg x = some (.ref f) ∧ PySem.W.keepIn K (.ref f) = true ∧ Binds K fd ps []
section
variable {X : Cx} {k : Nat} {ps : List Str} {sp : SpG} {x : Str} {p pos lp lpos : Pos} {e : Expr} {es : List Expr} {t : TA}
theorem pe_listGD (D : Dg X.prog X.w X.K X.mg X.base k x ps sp) (hr : Room (k + 3) X.A) (hg : Gl X x) (hl : Gl X "list") (hm : X.mg "list" = none) (ha : PA X (e :: es) t) (hdb : (x == ("__debug__" : Str)) = false := by decide)
    (he : starEach (e :: es) X.env = (false, eval e X.env) :: starEach es X.env := by rfl) (hpl : (backTo pos (starEach es X.env)).any (·.1) = false := by rfl)
    (he2 : starEach [.Call (.Name x p) (e :: es) [] pos] X.env = (false, eval (.Call (.Name x p) (e :: es) [] pos) X.env) :: starEach [] X.env := by rfl) :
    PE X (.Call (.Name "list" lp) [.Call (.Name x p) (e :: es) [] pos] [] lpos) (tListG (tCallG sp [] E0 t)) := by
  obtain ⟨f, fd, F, g, kp, b⟩ := D.ex
  exact pe_listG (pgen_call F (hr.mono (by omega)) hg g kp b .nil ha hdb he hpl) passG (fun _ _ _ h => h.elim) hr hl hm (by decide +kernel) (by decide) (by decide) he2
end
/-! ### x <= y of lists -/
end Sq
set_option Elab.async false
set_option linter.all false
set_option maxRecDepth 100000
set_option maxHeartbeats 2000000
/-! list(g(k=e, ..)) of a generator def, by keywords. -/
namespace Sq
open PySem PySem.Spec PyProof.Rows L2
structure Dgk (P : Program) (w : World) (K : PySem.W.Frag) (mg : Str → Option Value) (base : Heap) (k : Nat) (x : Str) (ps ks : List Str) (g : List Value → List Value → List Value) (gV : List V → List V → List V) (sp : SpG) : Prop where
  ex : ∃ f fd, GFn P w K mg base k f fd ps sp ∧ mg x = some (.ref f) ∧ PySem.W.keepIn K (.ref f) = true ∧ KBn K fd ps 0 ks g gV
def tCallGK (n : Nat) (gV : List V → List V → List V) (sp : SpG) (E : XK) (tk : TA) : TGen := fun σ H cont => tk σ H fun zs H1 => zs.length = n ∧ sp (gV [] zs) H1 cont E
section
variable {X : Cx} {k : Nat} {ps ks : List Str} {g : List Value → List Value → List Value} {gV : List V → List V → List V} {sp : SpG} {x : Str} {p pos lp lpos : Pos} {kws : List Keyword} {tk : TA} {f : Addr} {fd : FuncData}
theorem run_gfnK {pins : List (Addr × Obj)} {σ : L2.St} {H : Hp} {s : Shared} {ws : List Value} {zs : List V} {cont : List V → Hp → Prop} {E : XK} {E1 : Value → Shared → Prop} (F : GFn X.prog X.w X.K X.mg X.base k f fd ps sp) (hr : Room k X.A) (hb : KBn X.K fd ps 0 ks g gV)
    (I : Inv X pins σ H s) (rz : Vals zs ws) (l2 : zs.length = ks.length) (h : sp (gV [] zs) H cont E) :
    wpAny (model X.prog X.w) X.A (call (.ref f) [] (ks.zip ws)) (fun u s' => ∃ H1 sc ex, Inv X pins σ H1 sc ∧ ExOk X pins ex ∧ GMade X.prog X.w k X.stack H1 sc ex cont E u s') E1 s := by
  have r2 : Vals (gV [] zs) (g [] ws) := hb.rel .nil rz
  refine wpAny_call (codeAny_mono (F.run X.A X.stack s H ⟨[], ks.zip ws⟩ (g [] ws) (gV [] zs) cont E hr I.env0 (hb.to s [] ws I.kIn rfl (rz.length.symm.trans l2)) r2 h) fun r s' hq => ?_)
  cases r with
  | error e => exact False.elim hq
  | ok fl =>
    cases fl with
    | ret u => exact ⟨H, s, [], I, .nil, hq⟩
    | next => exact False.elim hq
    | brk => exact False.elim hq
    | cont => exact False.elim hq
theorem pgen_callK {E : XK} (F : GFn X.prog X.w X.K X.mg X.base k f fd ps sp) (hr : Room k X.A) (hg : Gl X x) (hm : X.mg x = some (.ref f)) (kp : PySem.W.keepIn X.K (.ref f) = true) (hb : KBn X.K fd ps 0 ks g gV)
    (hkw : PK X kws tk) (hall : (backToKw pos (keywordEach kws X.env)).all (·.1.isSome) = true := by rfl)
    (hks : (backToKw pos (keywordEach kws X.env)).filterMap (·.1) = ks := by rfl) (hdb : (x == ("__debug__" : Str)) = false := by decide)
    (hpl : ((backTo pos (starEach [] X.env)).any (·.1) || (backToKw pos (keywordEach kws X.env)).any (·.1.isNone)) = false := by rfl) :
    PGen X k (.Call (.Name x p) [] kws pos) (tCallGK ks.length gV sp E tk) E := by
  refine ⟨fun pins s σ H cont I h => ?_⟩
  refine wpAny_Call_Name_kw (ld_glob I hg hm ?_ hdb)
  refine PySem.W.callWith_KW0 (h₀ := X.base) I.ok.mod.kin kp hall (thn (hkw.run pos pins s σ H _ I h) fun ws s1 ⟨zs, H1, I1, rz, l2, q⟩ => ⟨I1.kIn, ?_⟩) hpl
  rw [hks]
  exact run_gfnK F hr hb I1 rz l2 q
theorem pe_listGK (D : Dgk X.prog X.w X.K X.mg X.base k x ps ks g gV sp) (hr : Room (k + 3) X.A) (hg : Gl X x) (hl : Gl X "list") (hm : X.mg "list" = none) (hkw : PK X kws tk) (hall : (backToKw pos (keywordEach kws X.env)).all (·.1.isSome) = true := by rfl)
    (hks : (backToKw pos (keywordEach kws X.env)).filterMap (·.1) = ks := by rfl) (hdb : (x == ("__debug__" : Str)) = false := by decide)
    (hpl : ((backTo pos (starEach [] X.env)).any (·.1) || (backToKw pos (keywordEach kws X.env)).any (·.1.isNone)) = false := by rfl)
    (he2 : starEach [.Call (.Name x p) [] kws pos] X.env = (false, eval (.Call (.Name x p) [] kws pos) X.env) :: starEach [] X.env := by rfl) :
    PE X (.Call (.Name "list" lp) [.Call (.Name x p) [] kws pos] [] lpos) (tListG (tCallGK ks.length gV sp E0 tk)) := by
  obtain ⟨f, fd, F, g, kp, b⟩ := D.ex
  exact pe_listG (pgen_callK F (hr.mono (by omega)) hg g kp b hkw hall hks hdb hpl) passG (fun _ _ _ h => h.elim) hr hl hm (by decide +kernel) (by decide) (by decide) he2
end
end Sq
set_option Elab.async false
set_option linter.all false
/-! A statement told apart from what follows. -/
namespace Sq
open PySem PySem.Spec PyProof.Rows L2
theorem cut_take (xs : List V) (n : Nat) (h : n ≤ xs.length) : cutV xs none (some (n : Int)) = xs.take n := by
  unfold cutV
  rw [HT.sIx_nat, HT.sIx_none, List.drop_zero, Nat.min_eq_left h, Nat.sub_zero]
end Sq
set_option Elab.async false
set_option linter.all false
set_option maxHeartbeats 1000000
/-! The least run with more, from the last replacement to the first; reaches of parts; how great they grow. -/
set_option Elab.async false
set_option linter.all false
set_option maxHeartbeats 1000000
/-! Small numbers as texts. -/
set_option Elab.async false
set_option linter.all false
set_option maxHeartbeats 1000000
/-! Lists of replacements in the heap; slices of them. -/
namespace Sq
open PySem PySem.Spec PyProof.Rows L2
/-- replacements, not too great -/
def Rpl (ks : List Int) : Prop := ∀ k ∈ ks, 2 ≤ k ∧ k < 1073741824
theorem Rpl.low {ks : List Int} (h : Rpl ks) : lowAt ks = none := (lowAt_take ks ks.length (by rw [List.take_length]; exact fun k hk => (h k hk).1)).2 (Nat.le_refl _)
theorem Rpl.two {ks : List Int} (h : Rpl ks) : ∀ k ∈ ks, 2 ≤ k := fun k hk => (h k hk).1
theorem Rpl.app {ks ls : List Int} (h : Rpl ks) (g : Rpl ls) : Rpl (ks ++ ls) := fun k hk => by
  rcases List.mem_append.mp hk with z | z
  · exact h k z
  · exact g k z
/-- a list of at most n replacements -/
def RL (H : Hp) (p : Addr) (n : Nat) : Prop := ∃ ks : List Int, H p = some (.lst (ks.map V.int)) ∧ ks.length ≤ n ∧ Rpl ks
theorem RL.same {H H' : Hp} {p : Addr} {n : Nat} (h : RL H p n) (s : Same H H') : RL H' p n := by
  obtain ⟨ks, g, l, r⟩ := h
  exact ⟨ks, s _ _ g, l, r⟩
theorem noPart {σ : L2.St} {H : Hp} {Q : Option Int → Hp → Prop} (h : Q none H) : tNoPart σ H Q := h
theorem wo_mon {G H : Hp} {D : Addr} (s : Same G H) : Same (wo G D) (wo H D) := fun b o e => by
  by_cases h : b = D
  · rw [h, wo_self] at e
    cases e
  · rw [wo_ne h] at e ⊢
    exact s b o e
end Sq
set_option Elab.async false
set_option linter.all false
set_option maxRecDepth 100000
set_option maxHeartbeats 4000000
set_option exponentiation.threshold 2000
namespace Sq
open PySem PySem.Spec PyProof.Rows L2
/-! ### the text -/
def topS (i : Nat) : Stmt := PySem.Challenge.pw_squeezelists_k09_origins_listed.main.body.getD i (.Pass ⟨0, 0, 0, 0⟩)
abbrev s_checklist : Stmt := topS 5
theorem sc_checklist : FnScope ["replacements", "index", "number"] ["replacements"] (defScope s_checklist) := ⟨rfl, rfl, rfl, by decide +kernel, rfl, by decide +kernel, by decide +kernel⟩
abbrev s_checknumber : Stmt := topS 6
theorem sc_checknumber : FnScope ["number", "least"] ["number", "least"] (defScope s_checknumber) := ⟨rfl, rfl, rfl, by decide +kernel, rfl, by decide +kernel, by decide +kernel⟩
abbrev s_greatestorigin : Stmt := topS 8
theorem sc_greatestorigin : FnScope ["length", "replacements", "greatest", "number"] ["length", "replacements"] (defScope s_greatestorigin) := ⟨rfl, rfl, rfl, by decide +kernel, rfl, by decide +kernel, by decide +kernel⟩
abbrev s_origins : Stmt := topS 9
theorem sc_origins : GScope ["length", "replacements", "found", "number", "after", "origin"] ["length", "replacements"] (defScope s_origins) := ⟨rfl, rfl, rfl, by decide +kernel, rfl, by decide +kernel, by decide +kernel⟩
abbrev s_countorigins : Stmt := topS 10
theorem sc_countorigins : FnScope ["length", "replacements", "last", "limits", "number", "limit", "many"] ["length", "replacements", "last"] (defScope s_countorigins) := ⟨rfl, rfl, rfl, by decide +kernel, rfl, by decide +kernel, by decide +kernel⟩
abbrev s_manyforone : Stmt := topS 11
theorem sc_manyforone : FnScope ["length", "number"] ["length", "number"] (defScope s_manyforone) := ⟨rfl, rfl, rfl, by decide +kernel, rfl, by decide +kernel, by decide +kernel⟩
abbrev s_originsforone : Stmt := topS 12
theorem sc_originsforone : FnScope ["length", "number", "left"] ["length", "number"] (defScope s_originsforone) := ⟨rfl, rfl, rfl, by decide +kernel, rfl, by decide +kernel, by decide +kernel⟩
abbrev s_limitsafter : Stmt := topS 13
theorem sc_limitsafter : FnScope ["limits", "number", "found", "limit", "many", "left", "longest"] ["limits", "number"] (defScope s_limitsafter) := ⟨rfl, rfl, rfl, by decide +kernel, rfl, by decide +kernel, by decide +kernel⟩
abbrev s_lawsource : Stmt := topS 15
theorem sc_lawsource : FnScope ["script", "mix", "digits", "cell", "span"] ["script"] (defScope s_lawsource) := ⟨rfl, rfl, rfl, by decide +kernel, rfl, by decide +kernel, by decide +kernel⟩
abbrev s_lawdraw : Stmt := topS 16
theorem sc_lawdraw : FnScope ["source", "many", "drawn", "mixed"] ["source", "many"] (defScope s_lawdraw) := ⟨rfl, rfl, rfl, by decide +kernel, rfl, by decide +kernel, by decide +kernel⟩
abbrev s_lawsame : Stmt := topS 17
theorem sc_lawsame : FnScope ["found", "wanted", "k"] ["found", "wanted"] (defScope s_lawsame) := ⟨rfl, rfl, rfl, by decide +kernel, rfl, by decide +kernel, by decide +kernel⟩
abbrev s_lawonce : Stmt := topS 18
theorem sc_lawonce : FnScope ["run", "one"] ["run", "one"] (defScope s_lawonce) := ⟨rfl, rfl, rfl, by decide +kernel, rfl, by decide +kernel, by decide +kernel⟩
abbrev s_lawsqueezed : Stmt := topS 19
theorem sc_lawsqueezed : FnScope ["run", "row", "one"] ["run", "row"] (defScope s_lawsqueezed) := ⟨rfl, rfl, rfl, by decide +kernel, rfl, by decide +kernel, by decide +kernel⟩
abbrev s_lawrow : Stmt := topS 20
theorem sc_lawrow : FnScope ["source", "many", "wide", "way", "again", "found", "time", "some"] ["source", "many", "wide"] (defScope s_lawrow) := ⟨rfl, rfl, rfl, by decide +kernel, rfl, by decide +kernel, by decide +kernel⟩
abbrev s_lawfirst : Stmt := topS 22
theorem sc_lawfirst : FnScope ["goal", "row", "few", "found", "run"] ["goal", "row", "few"] (defScope s_lawfirst) := ⟨rfl, rfl, rfl, by decide +kernel, rfl, by decide +kernel, by decide +kernel⟩
abbrev s_lawpairs : Stmt := topS 23
theorem sc_lawpairs : FnScope ["goal", "row", "one", "other"] ["goal", "row"] (defScope s_lawpairs) := ⟨rfl, rfl, rfl, by decide +kernel, rfl, by decide +kernel, by decide +kernel⟩
abbrev s_lawshort : Stmt := topS 24
theorem sc_lawshort : FnScope ["source", "goal", "row", "product_here", "one"] ["source", "goal"] (defScope s_lawshort) := ⟨rfl, rfl, rfl, by decide +kernel, rfl, by decide +kernel, by decide +kernel⟩
abbrev s_lawbackwards : Stmt := topS 25
theorem sc_lawbackwards : FnScope ["goal", "row", "found", "one", "longer", "run", "rest"] ["goal", "row"] (defScope s_lawbackwards) := ⟨rfl, rfl, rfl, by decide +kernel, rfl, by decide +kernel, by decide +kernel⟩
abbrev s_lawwideright : Stmt := topS 26
theorem sc_lawwideright : FnScope ["source", "goal", "row", "product_here", "one", "due", "run"] ["source"] (defScope s_lawwideright) := ⟨rfl, rfl, rfl, by decide +kernel, rfl, by decide +kernel, by decide +kernel⟩
abbrev s_law : Stmt := topS 27
theorem sc_law : FnScope ["script", "source", "k", "goal", "row", "top", "one", "saved", "run", "due", "told", "far", "time", "many", "few"] ["script"] (defScope s_law) := ⟨rfl, rfl, rfl, by decide +kernel, rfl, by decide +kernel, by decide +kernel⟩
section
variable {P : Program} {w : World} {K : PySem.W.Frag} {mg : Str → Option Value} {base : Heap}
/-! ### the checks -/
def spCheckList (K : PySem.W.Frag) : Sp := fun vs H Q _ => ∃ (a : Addr) (ks : List Int), vs = [.ref a] ∧ SqL K H a (ks.map V.int) ∧ (∀ k ∈ ks, 2 ≤ k) ∧ ∀ H', Same H H' → Q .non H'
theorem ok_checklist {f : Addr} {fd : FuncData} (F : Fun K "check_list" "check_list" s_checklist f fd) (B : Bi mg) : FnOk P w K mg base CX0 1 f fd ["replacements"] (spCheckList K) := by
  refine F.ok sc_checklist (fun vs H Q E h => ?_) (fun cdv A outer s H vs Q E hr h => ?_)
  · obtain ⟨a, ks, rfl, _⟩ := h
    rfl
  · obtain ⟨a, ks, rfl, hS, hk, q⟩ := h
    refine ⟨_, (pss_one (ps_for PassesOwn.never rfl (pi_enum (by rfl) B.n_enumerate (pa_cons (pv 0) pa_nil)) (pg_tup rfl (pgs_cons (pg_name (i := 1) sc_checklist.nd rfl (Or.inl rfl)) (pgs_cons (pg_name (i := 2) sc_checklist.nd rfl (Or.inl rfl)) pgs_nil)))
 (pss_one (ps_if (pt_cmpR op_lt (pv 2) pe_int (nomark _))
 (pss_one ps_never)
 pss_nil)))), ?_⟩
    refine ⟨_, rfl, a, ks.map V.int, rfl, hS, for_it walk_enum (fun i σ H' => Same H H' ∧ ∃ y z, σ = [some (.ref a), y, z]) ⟨Same.refl H, none, none, rfl⟩ (fun i σ H' _ h => h.1.seq hS) ?_ ?_⟩
    · rintro i σ H' v H2 hi ⟨sm, y, z, rfl⟩ ⟨T, x1, x2, rfl, nT, rfl, e1, e2⟩
      obtain ⟨k, hk', rfl⟩ := map_at e2
      cases e1
      refine ⟨T, _, rfl, .inl (.inl upd_same), rfl, _, _, rfl, _, _, rfl, rfl, ?_⟩
      refine ⟨_, rfl, _, _, rfl, rfl, _, rfl, ite2 (fun c => ?_) (fun c => ?_)⟩
      · have := hk k (List.mem_of_getElem? hk')
        have c' : k < 2 := of_decide_eq_true c
        omega
      · exact ⟨sm.trans (same_new nT), _, _, rfl⟩
    · rintro σ H' ⟨sm, y, z, rfl⟩
      exact q H' sm
def spCheckNumber : Sp := fun vs H Q _ => ∃ (n l : Int), vs = [.int n, .int l] ∧ l ≤ n ∧ Q .non H
theorem ok_checknumber {f : Addr} {fd : FuncData} (F : Fun K "check_number" "check_number" s_checknumber f fd) : FnOk P w K mg base CX0 1 f fd ["number", "least"] spCheckNumber := by
  refine F.ok sc_checknumber (fun vs H Q E h => ?_) (fun cdv A outer s H vs Q E hr h => ?_)
  · obtain ⟨n, l, rfl, _⟩ := h
    rfl
  · obtain ⟨n, l, rfl, hl, q⟩ := h
    refine ⟨_, (pss_one (ps_if (pt_cmpR op_lt (pv 0) (pv 1) (nomark _))
 (pss_one ps_never)
 pss_nil)), ?_⟩
    refine ⟨_, rfl, _, rfl, _, _, rfl, rfl, _, rfl, ite2 (fun c => ?_) (fun c => q)⟩
    have c' : n < l := of_decide_eq_true c
    omega
end
section
variable {P : Program} {w : World} {K : PySem.W.Frag} {mg : Str → Option Value} {base : Heap}
def spGreatC (K : PySem.W.Frag) : Sp := fun vs H Q _ => ∃ (n : Int) (a : Addr) (ks : List Int), vs = [.int n, .ref a] ∧ SqL K H a (ks.map V.int) ∧ 0 ≤ n ∧ Rpl ks ∧ ∀ H', Same H H' → Q (.int (n * pro ks)) H'
theorem ok_greatc {f : Addr} {fd : FuncData} (F : Fun K "greatest_origin" "greatest_origin" s_greatestorigin f fd) (D_checklist : Df P w K mg base 1 "check_list" ["replacements"] (spCheckList K)) (D_checknumber : Df P w K mg base 1 "check_number" ["number", "least"] spCheckNumber) : FnOk P w K mg base CX0 2 f fd ["length", "replacements"] (spGreatC K) := by
  refine F.ok sc_greatestorigin (fun vs H Q E h => ?_) (fun cdv A outer s H vs Q E hr h => ?_)
  · obtain ⟨n, a, ks, rfl, _⟩ := h
    rfl
  · obtain ⟨n, a, ks, rfl, hS, h0, rk, q⟩ := h
    refine ⟨_, (pss_cons (ps_expr (pe_callD D_checknumber (hr.mono (by omega)) (by rfl) (pa_cons (pv 0) (pa_cons pe_int pa_nil))))
 (pss_cons (ps_expr (pe_callD D_checklist (hr.mono (by omega)) (by rfl) (pa_cons (pv 1) pa_nil)))
 (pss_cons (ps_set (i := 2) sc_greatestorigin.nd rfl (Or.inl rfl) (pv 0))
 (pss_cons (ps_for PassesOwn.never rfl (pi_list (pv 1)) (pg_name (i := 3) sc_greatestorigin.nd rfl (Or.inl rfl))
 (pss_one (ps_set (i := 2) sc_greatestorigin.nd rfl (Or.inl rfl) (pe_op op_mul (pv 2) (pv 3)))))
 (pss_one (ps_ret (pv 2))))))), ?_⟩
    refine ⟨_, rfl, n, 0, rfl, h0, ?_⟩
    refine ⟨_, rfl, a, ks, rfl, hS, rk.two, fun H1 s1 => ?_⟩
    refine ⟨_, rfl, _, rfl, a, rfl, ⟨_, s1.seq hS⟩, for_list (K := K) (a := a) (xs := ks.map V.int) (fun i σ H' => H' = H1 ∧ ∃ y, σ = [some (.int n), some (.ref a), some (.int (n * pro (ks.take i))), y]) ⟨rfl, none, by rw [List.take_zero]; show _ = [_, _, some (V.int (n * 1)), _]; rw [Int.mul_one]; rfl⟩ (fun i σ H' _ h => by rw [h.1]; exact s1.seq hS) ?_ ?_⟩
    · rintro i x σ H' hi ⟨rfl, y, rfl⟩
      obtain ⟨k, e, rfl⟩ := map_at hi
      have hm := rk k (List.mem_of_getElem? e)
      refine ⟨_, rfl, _, rfl, _, k, rfl, rfl, .inr ⟨by omega, by omega⟩, rfl, some (.int k), ?_⟩
      rw [List.take_add_one, e]
      show _ = [_, _, some (V.int (n * pro (ks.take i ++ [k]))), _]
      rw [pro_app, ← Int.mul_assoc, show pro [k] = k from Int.one_mul k]
      rfl
    · rintro σ H' ⟨rfl, y, rfl⟩
      rw [List.length_map, List.take_length]
      exact ⟨_, rfl, q _ s1⟩
end
end Sq
set_option Elab.async false
set_option linter.all false
set_option maxRecDepth 100000
set_option maxHeartbeats 4000000
set_option exponentiation.threshold 2000
namespace Sq
open PySem PySem.Spec PyProof.Rows L2
theorem walkI {J : It} {n : Nat} {G : Hp → Prop} {Y : Nat → Hp → V → Hp → Prop} (Wk : Walk J n G Y) {Qd : Hp → Prop} {St : V → Hp → (Hp → Prop) → Prop} {H0 : Hp} (Pv : Nat → Hp → Prop) (h0 : Pv 0 H0) (hl : ∀ i H, i ≤ n → Pv i H → G H)
    (hs : ∀ i x H H', i < n → Pv i H → Y i H x H' → St x H' (Pv (i + 1))) (hd : ∀ H, Pv n H → Qd H) :
    ∃ W : Nat → Nat → Hp → Prop, (∃ m, W 0 m H0) ∧ ∀ i m H, W i m H → (J.stop i H ∧ Qd H) ∨ (J.go i H ∧ ∃ Nx : Hp → Prop, (∀ H', Nx H' → ∃ m', m' < m ∧ W (i + 1) m' H') ∧ ∀ x H', J.yld i H x H' → St x H' Nx) := by
  refine ⟨fun i m H => m = n - i ∧ i ≤ n ∧ Pv i H, ⟨_, rfl, Nat.zero_le _, h0⟩, ?_⟩
  rintro i m H ⟨rfl, le, p⟩
  have there := hl i H le p
  by_cases lt : i < n
  · exact .inr ⟨Wk.goes i H lt there, Pv (i + 1), fun H' p' => ⟨n - (i + 1), by omega, rfl, lt, p'⟩, fun x H' y => hs i x H H' lt p (Wk.yields i H x H' lt there y)⟩
  · obtain rfl : i = n := by omega
    exact .inl ⟨Wk.stops H there, hd H p⟩
section
variable {P : Program} {w : World} {K : PySem.W.Frag} {mg : Str → Option Value} {base : Heap}
def spLimits : Sp := fun vs H Q _ => ∃ (d : Addr) (k : Int) (kz : List (Int × Int)) (A : Int), vs = [.ref d, .int k] ∧ H d = some (.dK (kvZ kz)) ∧ 2 ≤ k ∧ k ≤ 30 ∧ 0 ≤ A ∧ (∀ x ∈ keysZ kz, Win A x) ∧ ∀ p H', H p = none → Same H H' → H' p = some (.dK (kvZ (nextZ k kz))) → Q (.ref p) H'
theorem ok_limits {f : Addr} {fd : FuncData} (F : Fun K "limits_after" "limits_after" s_limitsafter f fd) (B : Bi mg) : FnOk P w K mg base CX0 1 f fd ["limits", "number"] spLimits := by
  refine F.ok sc_limitsafter (fun vs H Q E h => ?_) (fun cdv A outer s H vs Q E hr h => ?_)
  · obtain ⟨d, k, kz, A, rfl, _⟩ := h
    rfl
  · obtain ⟨d, k, kz, A', rfl, hd, k2, k30, hA, win, q⟩ := h
    refine ⟨_, (pss_cons (ps_set (i := 2) sc_limitsafter.nd rfl (Or.inl rfl) pe_dnewK)
 (pss_cons (ps_lock (ps_for PassesOwn.never rfl (pi_items (pv 0)) (pg_tup rfl (pgs_cons (pg_name (i := 3) sc_limitsafter.nd rfl (Or.inl rfl)) (pgs_cons (pg_name (i := 4) sc_limitsafter.nd rfl (Or.inl rfl)) pgs_nil)))
 (pss_one (ps_for PassesOwn.never rfl (pi_range1 (by rfl) B.n_range (pa_cons (pe_callB (id := "min") (call_min2 rfl) (by rfl) B.n_min (by decide +kernel) (pa_cons (pv 1) (pa_cons (pe_op op_add (pv 3) pe_int) pa_nil))) pa_nil)) (pg_name (i := 5) sc_limitsafter.nd rfl (Or.inl rfl))
 (pss_cons (ps_set (i := 6) sc_limitsafter.nd rfl (Or.inl rfl) (pe_op op_add (pe_op op_fdiv (pe_op op_sub (pv 3) (pv 5)) (pv 1)) (pv 5)))
 (pss_cons (ps_dput (hu_of hr) (pv 2) (pv 6) (pe_op op_add (pe_dget2 (hu_of hr) (pv 2) (pv 6) pe_int ⟨by rfl, by rfl, by rfl, by rfl⟩) (pv 4)) rfl)
 (pss_one (ps_dput (hu_of hr) (pv 2) (pe_op op_sub (pv 5) pe_int) (pe_op op_sub (pe_dget2 (hu_of hr) (pv 2) (pe_op op_sub (pv 5) pe_int) pe_int ⟨by rfl, by rfl, by rfl, by rfl⟩) (pv 4)) rfl))))))))
 (pss_one (ps_ret (pe_lock (pe_dc (own := [("limit", 3), ("many", 4)]) (g := gTup K 2 (gCons (gName 3) (gCons (gName 4) gNil))) rfl sc_limitsafter.nd (pi_items (pv 2)) (blkOk_by (own := [("limit", 3), ("many", 4)]) (N := ["limits", "number", "found", "limit", "many", "left", "longest"]) (sc := defScope s_limitsafter) (by decide +kernel)) (fun _ _ _ _ _ => (pg_tup rfl (pgs_cons (pg_name (i := 3) sc_limitsafter.nd rfl (Or.inl rfl)) (pgs_cons (pg_name (i := 4) sc_limitsafter.nd rfl (Or.inl rfl)) pgs_nil)))) (fun _ _ _ _ _ => pts_one (pt_cmpR op_ne (pv 4) pe_int (nomark _))) (fun _ _ _ _ _ => (pv 3)) (fun _ _ _ _ _ => (pv 4)))))))), ?_⟩
    have lim : sizeLine = 16777216 := sizeLine_eq
    refine fun p hp => ?_
    have npd : d ≠ p := ne_of_none hd hp
    have win0 : ∀ i, ∀ x ∈ keysZ ((kz.take i).foldl (fun acc p => inn acc p.1 p.2 k (rng1 p.1 k)) []), Win (A' / k) x := fun i => outF_win hA k2 k30 (kz.take i) [] (fun x hx => by
      obtain ⟨q, hq, e⟩ := List.mem_map.mp hx
      exact win x (List.mem_map.mpr ⟨q, List.mem_of_mem_take hq, e⟩)) (fun x hx => nomatch hx)
    have nd0 : ∀ i, (keysZ ((kz.take i).foldl (fun acc p => inn acc p.1 p.2 k (rng1 p.1 k)) [])).Nodup := fun i => out_nd k _ [] List.nodup_nil
    have few : ∀ {acc : List (Int × Int)}, (keysZ acc).Nodup → (∀ x ∈ keysZ acc, Win (A' / k) x) → (kvZ acc).length < sizeLine := fun {acc} nd w => by
      have := win_len nd w
      unfold keysZ at this
      rw [List.length_map] at this
      unfold kvZ
      rw [List.length_map]
      omega
    refine ⟨d, .dK (kvZ kz), (same_new hp) _ _ hd, trivial, fun od => ?_⟩
    refine ⟨_, rfl, d, od, kvZ kz, rfl, upd_same, for_it walk_items (fun i σ H' => (∃ y3 y4 y5 y6, σ = [some (.ref d), some (.int k), some (.ref p), y3, y4, y5, y6]) ∧ H' d = some (.frz od (.dK (kvZ kz))) ∧ H' p = some (.dK (kvZ ((kz.take i).foldl (fun acc p => inn acc p.1 p.2 k (rng1 p.1 k)) []))) ∧ (∀ b o, H b = some o → b ≠ d → H' b = some o))
      ⟨⟨none, none, none, none, rfl⟩, upd_same, by rw [upd_ne npd.symm]; exact upd_same, fun b o e nb => by rw [upd_ne nb]; exact same_new hp _ _ e⟩ (fun i σ H' _ h => h.2.1) ?_ ?_⟩
    · rintro i x σ H1 H2 hi ⟨⟨y3, y4, y5, y6, rfl⟩, gd1, gp1, fr1⟩ ⟨T, u, v, rfl, nT, rfl, e1, e2⟩
      have hi' : i < kz.length := by
        unfold kvZ at hi
        rwa [List.length_map] at hi
      have ek : (kvZ kz)[i]? = some (.inl kz[i].1, .int kz[i].2) := by
        unfold kvZ
        rw [List.getElem?_map, List.getElem?_eq_getElem hi']
        rfl
      have e1' : Option.map (fun kv : Key × V => kV kv.1) (kvZ kz)[i]? = some u := e1
      have e2' : Option.map Prod.snd (kvZ kz)[i]? = some v := e2
      rw [ek] at e1' e2'
      cases e1'
      cases e2'
      clear e1 e2
      obtain ⟨lm, m, elm⟩ : ∃ lm m, kz[i] = (lm, m) := ⟨_, _, rfl⟩
      have wl : Win A' lm := win lm (List.mem_map.mpr ⟨kz[i], List.getElem_mem hi', by rw [elm]⟩)
      have l1 : -1 ≤ lm := by rcases wl with z | z <;> omega
      obtain ⟨acc, eacc⟩ : ∃ acc, acc = (kz.take i).foldl (fun acc p => inn acc p.1 p.2 k (rng1 p.1 k)) [] := ⟨_, rfl⟩
      have ndA : (keysZ acc).Nodup := by rw [eacc]; exact nd0 i
      have wA : ∀ x ∈ keysZ acc, Win (A' / k) x := by rw [eacc]; exact win0 i
      rw [← eacc] at gp1
      have eacc2 : inn acc lm m k (rng1 lm k) = (kz.take (i + 1)).foldl (fun acc p => inn acc p.1 p.2 k (rng1 p.1 k)) [] := by
        rw [List.take_add_one, List.getElem?_eq_getElem hi', elm, eacc]
        show _ = List.foldl _ [] (List.take i kz ++ [(lm, m)])
        rw [List.foldl_append]
        rfl
      rw [elm]
      refine ⟨T, _, rfl, .inl (.inl upd_same), rfl, _, _, rfl, _, _, rfl, rfl, ?_⟩
      have sT := same_new (o := .tup [.int lm, .int m]) nT
      obtain ⟨N, eN⟩ : ∃ N : Int, N = (if lm + 1 < k then lm + 1 else k) := ⟨_, rfl⟩
      have hN : N.toNat = rng1 lm k ∧ 0 ≤ N ∧ N ≤ 30 := by
        unfold rng1
        rw [eN]
        split <;> omega
      refine ⟨_, rfl, _, rfl, _, 1, rfl, rfl, k, lm + 1, rfl, N, by rw [eN], by omega, by omega, for_range (lo := 0) (n := N.toNat) (fun j σ H' => (∃ y5 y6, σ = [some (.ref d), some (.int k), some (.ref p), some (.int lm), some (.int m), y5, y6]) ∧ H' d = some (.frz od (.dK (kvZ kz))) ∧ H' p = some (.dK (kvZ (inn acc lm m k j))) ∧ (∀ b o, H b = some o → b ≠ d → H' b = some o))
        ⟨⟨y5, y6, rfl⟩, sT _ _ gd1, sT _ _ gp1, fun b o e nb => sT _ _ (fr1 b o e nb)⟩ ?_ ?_⟩
      · rintro j σ H3 hj ⟨⟨y5, y6, rfl⟩, gd3, gp3, fr3⟩
        rw [Int.zero_add]
        have hjr : j < rng1 lm k := by omega
        have ndj := inn_nd (lim := lm) (m := m) (k := k) ndA j
        have wj : ∀ x ∈ keysZ (inn acc lm m k j), Win (A' / k) x := fun x hx => by
          rcases inn_mem _ hx with z | ⟨i', hi2, z⟩
          · exact wA x z
          · have w := win_next hA k2 k30 wl (Nat.lt_trans hi2 hjr)
            rcases z with z | z
            · rw [z]; exact w.1
            · rw [z]; exact w.2
        have wn := win_next hA k2 k30 wl hjr
        obtain ⟨L, eL⟩ : ∃ L, L = lng lm k j := ⟨_, rfl⟩
        have eL2 : (lm - (j : Int)) / k + (j : Int) = L := by rw [eL]; rfl
        refine ⟨_, rfl, _, rfl, _, _, rfl, rfl, _, rfl, _, k, rfl, rfl, ⟨by omega, by omega⟩, _, rfl, _, _, rfl, rfl, ?_⟩
        dsimp only
        rw [eL2]
        refine ⟨_, rfl, p, rfl, .inl ⟨_, .of gp3⟩, _, rfl, _, DGet.k (k := .inl L) gp3, ?_⟩
        rw [get_kvZ]
        refine ⟨_, rfl, _, _, rfl, rfl, _, rfl, _, rfl, p, _, rfl, DPut.k (k := .inl L) gp3 (few ndj wj), ?_⟩
        rw [put_kvZ]
        have gp4 : (upd H3 p (.dK (kvZ (putZ (inn acc lm m k j) L (getZ (inn acc lm m k j) L + m))))) p = some (.dK (kvZ (addZ (inn acc lm m k j) L m))) := upd_same
        have gd4 : (upd H3 p (.dK (kvZ (putZ (inn acc lm m k j) L (getZ (inn acc lm m k j) L + m))))) d = some (.frz od (.dK (kvZ kz))) := by rw [upd_ne npd]; exact gd3
        have fr4 : ∀ b o, H b = some o → b ≠ d → (upd H3 p (.dK (kvZ (putZ (inn acc lm m k j) L (getZ (inn acc lm m k j) L + m))))) b = some o := fun b o e nb => by
          rw [upd_ne (ne_of_none e hp)]
          exact fr3 b o e nb
        generalize upd H3 p (.dK (kvZ (putZ (inn acc lm m k j) L (getZ (inn acc lm m k j) L + m)))) = H4 at gp4 gd4 fr4 ⊢
        have ndj4 : (keysZ (addZ (inn acc lm m k j) L m)).Nodup := nodup_put ndj
        have wj4 : ∀ x ∈ keysZ (addZ (inn acc lm m k j) L m), Win (A' / k) x := fun x hx => by
          rcases mem_put hx with z | z
          · exact wj x z
          · rw [z, eL]; exact wn.1
        refine ⟨_, rfl, p, rfl, .inl ⟨_, .of gp4⟩, _, rfl, _, 1, rfl, rfl, _, DGet.k (k := .inl ((j : Int) - 1)) gp4, ?_⟩
        rw [get_kvZ]
        refine ⟨_, rfl, _, _, rfl, rfl, _, rfl, _, rfl, _, 1, rfl, rfl, p, _, rfl, DPut.k (k := .inl ((j : Int) - 1)) gp4 (few ndj4 wj4), ?_⟩
        rw [put_kvZ]
        refine ⟨⟨_, _, rfl⟩, by rw [upd_ne npd]; exact gd4, ?_, fun b o e nb => by rw [upd_ne (ne_of_none e hp)]; exact fr4 b o e nb⟩
        rw [upd_same]
        show some (HO.dK (kvZ (putZ (addZ (inn acc lm m k j) L m) ((j : Int) - 1) (getZ (addZ (inn acc lm m k j) L m) ((j : Int) - 1) - m)))) = some (.dK (kvZ (addZ (addZ (inn acc lm m k j) (lng lm k j) m) ((j : Int) - 1) (-m))))
        rw [← eL]
        exact congrArg (fun z => some (HO.dK (kvZ (putZ (addZ (inn acc lm m k j) L m) ((j : Int) - 1) z)))) Int.sub_eq_add_neg
      · rintro σ H3 ⟨⟨y5, y6, rfl⟩, gd3, gp3, fr3⟩
        rw [hN.1, eacc2] at gp3
        exact ⟨⟨_, _, _, _, rfl⟩, gd3, gp3, fr3⟩
    · rintro σ H1 ⟨⟨y3, y4, y5, y6, rfl⟩, gd1, gp1, fr1⟩
      have lk : (kvZ kz).length = kz.length := by unfold kvZ; rw [List.length_map]
      rw [lk, List.take_length] at gp1
      have wF := win0 kz.length
      have nF := nd0 kz.length
      rw [List.take_length] at wF nF
      obtain ⟨fz, efz⟩ : ∃ fz, fz = outF k kz := ⟨_, rfl⟩
      have gp1' : H1 p = some (.dK (kvZ fz)) := by rw [efz]; exact gp1
      have wF' : ∀ x ∈ keysZ fz, Win (A' / k) x := by rw [efz]; exact wF
      have nF' : (keysZ fz).Nodup := by rw [efz]; exact nF
      have ez : nextZ k kz = fz.filter fun p => !decide (p.2 = 0) := by rw [efz]; rfl
      rw [ez] at q
      clear efz ez gp1 wF nF win0 nd0
      refine ⟨gd1, ?_⟩
      have gp2 : (upd H1 d (.dK (kvZ kz))) p = some (.dK (kvZ fz)) := by rw [upd_ne npd.symm]; exact gp1'
      have s2 : Same H (upd H1 d (.dK (kvZ kz))) := fun b o e => by
        by_cases c : b = d
        · rw [c, upd_same, ← e, c]
          exact hd.symm
        · rw [upd_ne c]
          exact fr1 b o e c
      generalize upd H1 d (.dK (kvZ kz)) = H2 at gp2 s2 ⊢
      refine ⟨p, .dK (kvZ fz), gp2, trivial, fun od2 => ?_⟩
      refine ⟨_, rfl, p, od2, kvZ fz, rfl, upd_same, fun D hD => have hD' : H2 D = none := (by
        have nD : D ≠ p := fun z => by rw [z, upd_same] at hD; cases hD
        rw [upd_ne nD] at hD
        exact hD)
        walkI walk_items (fun i H' => H' p = some (.frz od2 (.dK (kvZ fz))) ∧ H' D = some (.dK (kvZ ((fz.take i).filter fun p => !decide (p.2 = 0)))) ∧ (∀ b o, H2 b = some o → b ≠ p → H' b = some o)) ?_ (fun i H' _ h => h.1) ?_ ?_⟩
      · have nD : p ≠ D := fun z => by rw [← z, upd_same] at hD; cases hD
        have hD2 : H2 D = none := by rw [upd_ne nD.symm] at hD; exact hD
        refine ⟨by rw [upd_ne nD, upd_same], upd_same, fun b o e nb => ?_⟩
        rw [upd_ne (ne_of_none e hD2), upd_ne nb]
        exact e
      · rintro i x H3 H4 hi ⟨gp3, gD3, fr3⟩ ⟨T, u, v, rfl, nT, rfl, e1, e2⟩
        have hi' : i < fz.length := by
          unfold kvZ at hi
          rwa [List.length_map] at hi
        have ek : (kvZ fz)[i]? = some (.inl fz[i].1, .int fz[i].2) := by
          unfold kvZ
          rw [List.getElem?_map, List.getElem?_eq_getElem hi']
          rfl
        have e1' : Option.map (fun kv : Key × V => kV kv.1) (kvZ fz)[i]? = some u := e1
        have e2' : Option.map Prod.snd (kvZ fz)[i]? = some v := e2
        rw [ek] at e1' e2'
        cases e1'
        cases e2'
        clear e1 e2
        obtain ⟨lm, m, elm⟩ : ∃ lm m, fz[i] = (lm, m) := ⟨_, _, rfl⟩
        rw [elm]
        have sT := same_new (o := .tup [.int lm, .int m]) nT
        have tk : fz.take (i + 1) = fz.take i ++ [(lm, m)] := by rw [List.take_add_one, List.getElem?_eq_getElem hi', elm]; rfl
        refine ⟨T, _, rfl, .inl (.inl upd_same), rfl, _, _, rfl, _, _, rfl, rfl, rfl, ?_⟩
        refine ⟨_, rfl, rfl, _, rfl, ?_⟩
        by_cases c : m = 0
        · rw [decide_eq_true (congrArg V.int c)]
          refine iteF ⟨sT _ _ gp3, ?_, fun b o e nb => sT _ _ (fr3 b o e nb)⟩
          rw [tk, List.filter_append, show [(lm, m)].filter (fun p => !decide (p.2 = 0)) = [] by rw [List.filter_cons_of_neg (by simp [c])]; rfl, List.append_nil]
          exact sT _ _ gD3
        · rw [decide_eq_false (fun z => c (by injection z))]
          have fnd : lm ∉ keysZ ((fz.take i).filter fun p => !decide (p.2 = 0)) := fun z => by
            obtain ⟨q1, hq1, e1⟩ := List.mem_map.mp (keys_filter z)
            have nn := nF'
            unfold keysZ at nn
            have h2 : ((fz.take i).map (·.1) ++ (fz.drop i).map (·.1)).Nodup := by rw [← List.map_append, List.take_append_drop]; exact nn
            have md : lm ∈ (fz.drop i).map (·.1) := by
              rw [List.drop_eq_getElem_cons hi', elm]
              exact List.mem_cons_self
            exact (List.nodup_append.mp h2).2.2 lm (List.mem_map.mpr ⟨q1, hq1, e1⟩) lm md rfl
          have put : putZ ((fz.take i).filter fun p => !decide (p.2 = 0)) lm m = (fz.take (i + 1)).filter fun p => !decide (p.2 = 0) := by
            rw [tk, List.filter_append, show [(lm, m)].filter (fun p => !decide (p.2 = 0)) = [(lm, m)] by rw [List.filter_cons_of_pos (by simp [c])]; rfl]
            unfold putZ
            rw [if_neg]
            intro z
            obtain ⟨q1, hq1, h1⟩ := List.any_eq_true.mp z
            exact fnd (List.mem_map.mpr ⟨q1, hq1, of_decide_eq_true h1⟩)
          have nDp : D ≠ p := fun z => by rw [z, gp3] at gD3; cases gD3
          have ndF : (keysZ ((fz.take i).filter fun p => !decide (p.2 = 0))).Nodup := by
            unfold keysZ
            exact List.Nodup.sublist (List.Sublist.map _ (List.Sublist.trans List.filter_sublist (List.take_sublist i fz))) nF'
          have wFF : ∀ x ∈ keysZ ((fz.take i).filter fun p => !decide (p.2 = 0)), Win (A' / k) x := fun x hx => by
            obtain ⟨q1, hq1, e1⟩ := List.mem_map.mp (keys_filter hx)
            exact wF' x (List.mem_map.mpr ⟨q1, List.mem_of_mem_take hq1, e1⟩)
          refine iteT ⟨_, rfl, _, rfl, _, .inl lm, rfl, sT _ _ gD3, few ndF wFF, ?_⟩
          rw [put_kvZ, put]
          refine ⟨by rw [upd_ne nDp.symm]; exact sT _ _ gp3, upd_same, fun b o e nb => ?_⟩
          have nbD : b ≠ D := fun z => by
            rw [z] at e nb
            exact absurd e (by rw [hD']; exact fun z => nomatch z)
          rw [upd_ne nbD]
          exact sT _ _ (fr3 b o e nb)
      · rintro H3 ⟨gp3, gD3, fr3⟩
        have lk : (kvZ fz).length = fz.length := by unfold kvZ; rw [List.length_map]
        rw [lk, List.take_length] at gD3
        have nDp : D ≠ p := fun z => by rw [z, gp3] at gD3; cases gD3
        refine ⟨gp3, q D _ ?_ (fun b o e => ?_) (by rw [upd_ne nDp]; exact gD3)⟩
        · rw [upd_ne nDp] at hD
          exact s2.free hD
        · rw [upd_ne (ne_of_none e hp)]
          exact fr3 b o (s2 b o e) (ne_of_none e hp)
end
theorem mZ_sel (L : Int) : ∀ kz : List (Int × Int), mZ kz L = ((kz.filter fun p => decide (L ≤ p.1)).map (·.2)).sum
  | [] => rfl
  | p :: kz => by
    rw [mZ_cons, mZ_sel L kz]
    by_cases c : L ≤ p.1
    · rw [List.filter_cons_of_pos (by exact decide_eq_true c), List.map_cons, List.sum_cons, decide_eq_true c]
      show p.2 * 1 + _ = _
      rw [Int.mul_one]
    · rw [List.filter_cons_of_neg (by intro z; exact c (of_decide_eq_true z)), decide_eq_false c]
      show p.2 * 0 + _ = _
      rw [Int.mul_zero, Int.zero_add]
section
variable {P : Program} {w : World} {K : PySem.W.Frag} {mg : Str → Option Value} {base : Heap}
def spCount (K : PySem.W.Frag) : Sp := fun vs H Q _ => ∃ (L last : Nat) (a : Addr) (ks : List Int), vs = [.int (L : Int), .ref a, .int (last : Int)] ∧ SqL K H a (ks.map V.int) ∧ (∀ k ∈ ks, 2 ≤ k ∧ k ≤ 30) ∧ ∀ H', Same H H' → Q (.int ((cntO L ks last : Nat) : Int)) H'
theorem ok_count {f : Addr} {fd : FuncData} (F : Fun K "count_origins" "count_origins" s_countorigins f fd) (B : Bi mg) (D_checknumber : Df P w K mg base 1 "check_number" ["number", "least"] spCheckNumber) (D_checklist : Df P w K mg base 1 "check_list" ["replacements"] (spCheckList K))
    (D_limitsafter : Df P w K mg base 1 "limits_after" ["limits", "number"] spLimits) : FnOk P w K mg base CX0 2 f fd ["length", "replacements", "last"] (spCount K) := by
  refine F.ok sc_countorigins (fun vs H Q E h => ?_) (fun cdv A outer s H vs Q E hr h => ?_)
  · obtain ⟨L, last, a, ks, rfl, _⟩ := h
    rfl
  · obtain ⟨L, last, a, ks, rfl, hS, hk, q⟩ := h
    refine ⟨_, (pss_cons (ps_expr (pe_callD D_checknumber (hr.mono (by omega)) (by rfl) (pa_cons (pv 0) (pa_cons pe_int pa_nil))))
 (pss_cons (ps_expr (pe_callD D_checklist (hr.mono (by omega)) (by rfl) (pa_cons (pv 1) pa_nil)))
 (pss_cons (ps_expr (pe_callD D_checknumber (hr.mono (by omega)) (by rfl) (pa_cons (pv 2) (pa_cons pe_int pa_nil))))
 (pss_cons (ps_set (i := 3) sc_countorigins.nd rfl (Or.inl rfl) (pe_disp (pps_cons (pv 2) pe_int pps_nil) rfl rfl (by simp) (by decide)))
 (pss_cons (ps_for PassesOwn.never rfl (pi_list (pv 1)) (pg_name (i := 4) sc_countorigins.nd rfl (Or.inl rfl))
 (pss_one (ps_set (i := 3) sc_countorigins.nd rfl (Or.inl rfl) (pe_callD D_limitsafter (hr.mono (by omega)) (by rfl) (pa_cons (pv 3) (pa_cons (pv 4) pa_nil))))))
 (pss_one (ps_ret (pe_callB (id := "sum") (cr_sum rfl) (by rfl) B.n_sum (by decide +kernel) (pa_cons (pe_lock (pe_lc (own := [("limit", 5), ("many", 6)]) (g := gTup K 2 (gCons (gName 5) (gCons (gName 6) gNil))) rfl sc_countorigins.nd (pi_items (pv 3)) (blkOk_by (own := [("limit", 5), ("many", 6)]) (N := ["length", "replacements", "last", "limits", "number", "limit", "many"]) (sc := defScope s_countorigins) (by decide +kernel)) (fun _ _ _ _ _ => (pg_tup rfl (pgs_cons (pg_name (i := 5) sc_countorigins.nd rfl (Or.inl rfl)) (pgs_cons (pg_name (i := 6) sc_countorigins.nd rfl (Or.inl rfl)) pgs_nil)))) (fun _ _ _ _ _ => pts_one (pt_cmpR op_ge (pv 5) (pv 0) (nomark _))) (fun _ _ _ _ _ => (pv 6)))) pa_nil))))))))), ?_⟩
    have lim : sizeLine = 16777216 := sizeLine_eq
    have two : ∀ k ∈ ks, 2 ≤ k := fun k h => (hk k h).1
    refine ⟨_, rfl, (L : Int), 0, rfl, by omega, _, rfl, a, ks, rfl, hS, two, fun H1 s1 => ⟨_, rfl, (last : Int), 0, rfl, by omega, fun p hp => ?_⟩⟩
    refine ⟨_, rfl, upd_same, [(.inl (last : Int), .int 1)], rfl, by show 1 ≤ 15; decide, ?_⟩
    have s2 : Same H1 (upd (upd H1 p (.dK [])) p (.dK (mergeK [] [(.inl (last : Int), .int 1)]))) := fun b o e => by
      rw [upd_ne (ne_of_none e hp), upd_ne (ne_of_none e hp)]
      exact e
    have g2 : (upd (upd H1 p (.dK [])) p (.dK (mergeK [] [(.inl (last : Int), .int 1)]))) p = some (.dK (kvZ [((last : Int), 1)])) := upd_same
    generalize upd (upd H1 p (.dK [])) p (.dK (mergeK [] [(.inl (last : Int), .int 1)])) = H2 at s2 g2 ⊢
    have s02 := s1.trans s2
    refine ⟨_, rfl, a, rfl, ⟨_, s02.seq hS⟩, for_list (K := K) (a := a) (xs := ks.map V.int) (fun i σ H' => ∃ d kz y4, σ = [some (.int (L : Int)), some (.ref a), some (.int (last : Int)), some (.ref d), y4, none, none] ∧ Same H H' ∧ H' d = some (.dK (kvZ kz)) ∧ LimOk (ks.take i) last kz)
      ⟨p, _, none, rfl, s02, g2, by rw [List.take_zero]; exact lim_start last⟩ (fun i σ H' _ h => by obtain ⟨_, _, _, _, s, _⟩ := h; exact s.seq hS) ?_ ?_⟩
    · rintro i v σ H3 hi ⟨d, kz, y4, rfl, s3, gd, S⟩
      obtain ⟨k, ek, rfl⟩ := map_at hi
      obtain ⟨k2, k30⟩ := hk k (List.mem_of_getElem? ek)
      obtain ⟨A', hA, _, win⟩ := S.win
      refine ⟨_, rfl, _, rfl, d, k, kz, A', rfl, gd, k2, k30, hA, win, fun p2 H4 hp2 s4 gp2 => ⟨p2, _, _, rfl, s3.trans s4, gp2, ?_⟩⟩
      rw [List.take_add_one, ek]
      exact lim_next S (fun x hx => two x (List.mem_of_mem_take hx)) k2 k30
    · rintro σ H3 ⟨d, kz, y4, rfl, s3, gd, S⟩
      rw [List.length_map, List.take_length] at S
      have hdH : ∀ b o, H b = some o → b ≠ d ∨ b = d := fun b o _ => by
        by_cases c : b = d
        · exact .inr c
        · exact .inl c
      refine ⟨d, .dK (kvZ kz), gd, trivial, fun od => ?_⟩
      refine ⟨_, rfl, d, od, kvZ kz, rfl, upd_same, fun D hD => have hD' : H3 D = none := (by
        have nD : D ≠ d := fun z => by rw [z, upd_same] at hD; cases hD
        rw [upd_ne nD] at hD
        exact hD)
        lc_it walk_items (fun i H' => H' d = some (.frz od (.dK (kvZ kz))) ∧ H' D = some (.lst ((((kz.take i).filter fun p => decide ((L : Int) ≤ p.1)).map (·.2)).map V.int)) ∧ (∀ b o, H3 b = some o → b ≠ d → H' b = some o)) ?_ (fun i H' _ h => h.1) ?_ ?_⟩
      · have nD : d ≠ D := fun z => by rw [← z, upd_same] at hD; cases hD
        refine ⟨by rw [upd_ne nD, upd_same], upd_same, fun b o e nb => ?_⟩
        rw [upd_ne (ne_of_none e hD'), upd_ne nb]
        exact e
      · rintro i x H4 H5 hi ⟨gd4, gD4, fr4⟩ ⟨T, u, v, rfl, nT, rfl, e1, e2⟩
        have hi' : i < kz.length := by
          unfold kvZ at hi
          rwa [List.length_map] at hi
        have ek : (kvZ kz)[i]? = some (.inl kz[i].1, .int kz[i].2) := by
          unfold kvZ
          rw [List.getElem?_map, List.getElem?_eq_getElem hi']
          rfl
        have e1' : Option.map (fun kv : Key × V => kV kv.1) (kvZ kz)[i]? = some u := e1
        have e2' : Option.map Prod.snd (kvZ kz)[i]? = some v := e2
        rw [ek] at e1' e2'
        cases e1'
        cases e2'
        clear e1 e2
        obtain ⟨lm, m, elm⟩ : ∃ lm m, kz[i] = (lm, m) := ⟨_, _, rfl⟩
        rw [elm]
        have sT := same_new (o := .tup [.int lm, .int m]) nT
        have tk : kz.take (i + 1) = kz.take i ++ [(lm, m)] := by rw [List.take_add_one, List.getElem?_eq_getElem hi', elm]; rfl
        have nDd : D ≠ d := fun z => by rw [z, gd4] at gD4; cases gD4
        refine ⟨T, _, rfl, .inl (.inl upd_same), rfl, _, _, rfl, _, _, rfl, rfl, rfl, ?_⟩
        refine ⟨_, rfl, _, rfl, _, _, rfl, rfl, _, rfl, ?_⟩
        by_cases c : (L : Int) ≤ lm
        · rw [decide_eq_true c]
          have fewK : ((((kz.take i).filter fun p => decide ((L : Int) ≤ p.1)).map (·.2)).map V.int).length < sizeLine := by
            obtain ⟨A', hA, _, win⟩ := S.win
            have := win_len S.nd win
            unfold keysZ at this
            rw [List.length_map] at this
            rw [List.length_map, List.length_map]
            have f := List.length_filter_le (fun p : Int × Int => decide ((L : Int) ≤ p.1)) (kz.take i)
            rw [List.length_take] at f
            omega
          refine iteT ⟨_, rfl, _, sT _ _ gD4, fewK, by rw [upd_ne nDd.symm]; exact sT _ _ gd4, ?_, fun b o e nb => ?_⟩
          · rw [upd_same, tk, List.filter_append, show [(lm, m)].filter (fun p => decide ((L : Int) ≤ p.1)) = [(lm, m)] by rw [List.filter_cons_of_pos (by exact decide_eq_true c)]; rfl, List.map_append, List.map_append]
            rfl
          · have nbD : b ≠ D := ne_of_none e hD'
            rw [upd_ne nbD]
            exact sT _ _ (fr4 b o e nb)
        · rw [decide_eq_false c]
          refine iteF ⟨sT _ _ gd4, ?_, fun b o e nb => sT _ _ (fr4 b o e nb)⟩
          rw [tk, List.filter_append, show [(lm, m)].filter (fun p => decide ((L : Int) ≤ p.1)) = [] by rw [List.filter_cons_of_neg (by intro z; exact c (of_decide_eq_true z))]; rfl, List.append_nil]
          exact sT _ _ gD4
      · rintro H4 ⟨gd4, gD4, fr4⟩
        have lk : (kvZ kz).length = kz.length := by unfold kvZ; rw [List.length_map]
        rw [lk, List.take_length] at gD4
        have nDd : D ≠ d := fun z => by rw [z, gd4] at gD4; cases gD4
        refine ⟨gd4, D, _, rfl, SqL.of (by rw [upd_ne nDd]; exact gD4), ?_⟩
        rw [← mZ_sel, S.tells L]
        refine q _ fun b o e => ?_
        by_cases c : b = d
        · have := s3 b o e
          rw [c, gd] at this
          rw [c, upd_same]
          exact this
        · rw [upd_ne c]
          exact fr4 b o (s3 b o e) c
end
/-! ### the source of draws: at l, its digits at d -/
def M61 : Int := 2305843009213693951
structure Src (H : Hp) (l d : Addr) (mix cnt : Int) : Prop where
  ob : ∃ cur ds, H l = some (.lst [.ref d, .int cur, .int mix, .int cnt]) ∧ H d = some (.lst (List.map V.int ds))
  m0 : 0 ≤ mix
  m1 : mix < M61
  c0 : 0 ≤ cnt
  ne : l ≠ d
/-- all but the two lists is as it was -/
def Keep (H H' : Hp) (l d : Addr) : Prop := ∀ b o, H b = some o → b ≠ l → b ≠ d → H' b = some o
theorem Keep.refl (H : Hp) (l d : Addr) : Keep H H l d := fun _ _ h _ _ => h
theorem Keep.trans {H H1 H2 : Hp} {l d : Addr} (a : Keep H H1 l d) (b : Keep H1 H2 l d) : Keep H H2 l d := fun c o h n1 n2 => b c o (a c o h n1 n2) n1 n2
theorem Keep.of {H H' : Hp} {l d : Addr} (s : Same H H') : Keep H H' l d := fun b o h _ _ => s b o h
theorem Keep.l {H H' : Hp} {l d : Addr} {o : HO} (a : Keep H H' l d) : Keep H (upd H' l o) l d := fun c x h n1 n2 => by
  rw [upd_ne n1]
  exact a c x h n1 n2
theorem Keep.d {H H' : Hp} {l d : Addr} {o : HO} (a : Keep H H' l d) : Keep H (upd H' d o) l d := fun c x h n1 n2 => by
  rw [upd_ne n2]
  exact a c x h n1 n2
theorem Keep.new {H H' : Hp} {l d p : Addr} {o : HO} (a : Keep H H' l d) (h : H' p = none) : Keep H (upd H' p o) l d := a.trans (Keep.of (same_new h))
theorem Keep.seq {K : PySem.W.Frag} {H H' : Hp} {a l d : Addr} {xs : List V} (e : Keep H H' l d) (n1 : a ≠ l) (n2 : a ≠ d) (h : SqL K H a xs) : SqL K H' a xs := by
  rcases h with (h | ⟨o, h⟩) | h
  · exact .inl (.inl (e _ _ h n1 n2))
  · exact .inl (.inr ⟨o, e _ _ h n1 n2⟩)
  · exact .inr h
theorem Src.same {H H' : Hp} {l d : Addr} {mix cnt : Int} (S : Src H l d mix cnt) (s : Same H H') : Src H' l d mix cnt :=
  let ⟨cur, ds, h1, h2⟩ := S.ob
  ⟨⟨cur, ds, s _ _ h1, s _ _ h2⟩, S.m0, S.m1, S.c0, S.ne⟩
def spDraw : Sp := fun vs H Q _ => ∃ (l d : Addr) (mix cnt many : Int), vs = [.ref l, .int many] ∧ Src H l d mix cnt ∧ cnt < 1000000 ∧ 0 < many ∧ many.natAbs < 2 ^ 500 ∧
  ∀ z cnt' H', 0 ≤ z → z < many → Src H' l d mix cnt' → cnt' ≤ cnt + 1 → Keep H H' l d → Q (.int z) H'
theorem m61_small (x : Int) : (x % ((2 : Int) ^ (61 : Int).toNat - 1)).natAbs < 2 ^ 64 := by
  have h1 := Int.emod_nonneg x (show (2 : Int) ^ (61 : Int).toNat - 1 ≠ 0 by decide)
  have h2 := Int.emod_lt_of_pos x (show 0 < (2 : Int) ^ (61 : Int).toNat - 1 by decide)
  have e : (2 : Int) ^ (61 : Int).toNat - 1 = 2305843009213693951 := by decide
  rw [e] at h1 h2 ⊢
  omega
theorem Keep.free {H H' : Hp} {l d p : Addr} {mix cnt : Int} (k : Keep H H' l d) (S : Src H' l d mix cnt) (h : H' p = none) : H p = none := by
  obtain ⟨cur, ds, h1, h2⟩ := S.ob
  cases e : H p with
  | none => rfl
  | some o =>
    have := k p o e (fun z => by rw [z, h1] at h; cases h) (fun z => by rw [z, h2] at h; cases h)
    rw [h] at this
    cases this
theorem Src.nel {H : Hp} {l d p : Addr} {mix cnt : Int} (S : Src H l d mix cnt) (h : H p = none) : p ≠ l := fun z => by
  obtain ⟨cur, ds, h1, h2⟩ := S.ob
  rw [z, h1] at h
  cases h
theorem Src.ned {H : Hp} {l d p : Addr} {mix cnt : Int} (S : Src H l d mix cnt) (h : H p = none) : p ≠ d := fun z => by
  obtain ⟨cur, ds, h1, h2⟩ := S.ob
  rw [z, h2] at h
  cases h
section
variable {P : Program} {w : World} {K : PySem.W.Frag} {mg : Str → Option Value} {base : Heap}
theorem ok_lawdraw {f : Addr} {fd : FuncData} (F : Fun K "_law_draw" "_law_draw" s_lawdraw f fd) : FnOk P w K mg base CX0 1 f fd ["source", "many"] spDraw := by
  refine F.ok sc_lawdraw (fun vs H Q E h => ?_) (fun cdv A outer s H vs Q E hr h => ?_)
  · obtain ⟨l, d, mix, cnt, many, rfl, _⟩ := h
    rfl
  · obtain ⟨l, d, mix, cnt, many, rfl, S, hc, hm, hw, q⟩ := h
    refine ⟨_, (pss_cons (ps_while PassesOwn.never (PW.pt (pw_and (pt_cmpR op_lt (pe_ix (r := rIxL K) ix_list (pv 0) pe_int (fun _ _ => rfl)) pe_int (nomark _)) (pw_and1 (pt_cmpR (op_neD hr.units) (pe_ix (r := rIxL K) ix_list (pv 0) pe_int (fun _ _ => rfl)) (pe_lst pa_nil) (nomark _)))))
 (pss_one (ps_asg (pe_bm PySem.F.plainAttrs_list PySem.F.slot_list_pop PySem.F.type_list_pop mt_popAt (pe_ix (r := rIxL K) ix_list (pv 0) pe_int (fun _ _ => rfl)) (pa_cons pe_int pa_nil)) (pg_sub (pv 0) pe_int set_list))))
 (pss_cons (ps_if (pt_cmpR op_ge (pe_ix (r := rIxL K) ix_list (pv 0) pe_int (fun _ _ => rfl)) pe_int (nomark _))
 (pss_cons (ps_set (i := 2) sc_lawdraw.nd rfl (Or.inl rfl) (pe_op op_mod (pe_ix (r := rIxL K) ix_list (pv 0) pe_int (fun _ _ => rfl)) (pv 1)))
 (pss_cons (ps_asg (pe_op op_fdivW (pe_ix (r := rIxL K) ix_list (pv 0) pe_int (fun _ _ => rfl)) (pv 1)) (pg_sub (pv 0) pe_int set_list))
 (pss_one (ps_ret (pv 2)))))
 pss_nil)
 (pss_cons (ps_asg (pe_op op_add (pe_ix (r := rIxL K) ix_list (pv 0) pe_int (fun _ _ => rfl)) pe_int) (pg_sub (pv 0) pe_int set_list))
 (pss_cons (ps_set (i := 3) sc_lawdraw.nd rfl (Or.inl rfl) (pe_op op_mul (pe_op op_add (pe_ix (r := rIxL K) ix_list (pv 0) pe_int (fun _ _ => rfl)) pe_int) (pe_op op_pow (pe_op op_add (pe_ix (r := rIxL K) ix_list (pv 0) pe_int (fun _ _ => rfl)) pe_int) pe_int)))
 (pss_cons (ps_set (i := 3) sc_lawdraw.nd rfl (Or.inl rfl) (pe_op op_mod (pe_op op_add (pv 3) (pe_op op_mul pe_int (pe_ix (r := rIxL K) ix_list (pv 0) pe_int (fun _ _ => rfl)))) (pe_op op_sub (pe_op op_pow pe_int pe_int) pe_int)))
 (pss_one (ps_ret (pe_op op_mod (pe_op op_fdiv (pe_op op_mod (pe_op op_pow (pv 3) pe_int) (pe_op op_add (pe_op op_pow pe_int pe_int) pe_int)) pe_int) (pv 1))))))))), ?_⟩
    have c0 := S.c0
    have m0 := S.m0
    have m1 := S.m1
    have nld := S.ne
    -- while source[1] < 2 and source[0] != []
    obtain ⟨cur0, ds0, hl0, hd0⟩ := S.ob
    refine ⟨fun m σ H' => σ = [some (.ref l), some (.int many), none, none] ∧ Keep H H' l d ∧ ∃ cur ds, H' l = some (.lst [.ref d, .int cur, .int mix, .int cnt]) ∧ H' d = some (.lst (List.map V.int ds)) ∧ ds.length = m,
      ⟨_, rfl, Keep.refl H l d, cur0, ds0, hl0, hd0, rfl⟩, ?_⟩
    rintro m σ H' ⟨rfl, kp, cur, ds, hl, hd, hm2⟩
    refine tell (fun H2 => Same H' H2 ∧ ds ≠ []) (fun H2 => Same H' H2) (fun Q' hT hF => ?_) (fun H2 h => ?_) (fun H2 h => ?_)
    · refine ⟨_, rfl, l, _, 1, _, rfl, rfl, SqL.of hl, rfl, cur, 2, rfl, rfl, _, rfl, ite2 (fun c1 => ?_) (fun c1 => hF _ (Same.refl _))⟩
      refine ⟨_, rfl, l, _, 0, _, rfl, rfl, SqL.of hl, rfl, Nat.zero_le _, fun p hp => ?_⟩
      have npd : d ≠ p := ne_of_none hd hp
      refine ⟨_, _, .lst (SqL.of (show (upd H' p (.lst [])) d = _ by rw [upd_ne npd]; exact hd)) (dp_ints ds), .lst (SqL.of upd_same) .nil, shaped_ints ds, shaped_ints [], _, rfl, ?_⟩
      cases ds with
      | nil => exact hF _ (same_new hp)
      | cons x r => exact hT _ ⟨same_new hp, List.cons_ne_nil _ _⟩
    · refine iteT ?_
      obtain ⟨sm, nn⟩ := h
      obtain ⟨x, r, rfl⟩ : ∃ x r, ds = x :: r := by
        cases ds with
        | nil => exact absurd rfl nn
        | cons x r => exact ⟨x, r, rfl⟩
      have hl2 := sm _ _ hl
      have hd2 := sm _ _ hd
      refine ⟨fun σ' H'' => σ' = [some (.ref l), some (.int many), none, none] ∧ Keep H H'' l d ∧ H'' l = some (.lst [.ref d, .int x, .int mix, .int cnt]) ∧ H'' d = some (.lst (List.map V.int r)), ?_, ?_⟩
      · rintro σ' H'' ⟨e1, e2, e3, e4⟩
        exact ⟨r.length, by rw [← hm2, List.length_cons]; omega, e1, e2, _, _, e3, e4, rfl⟩
      refine ⟨_, rfl, l, _, 0, _, rfl, rfl, SqL.of hl2, rfl, .inl ⟨rfl, _, SqL.of hd2⟩, d, _, 0, 0, .int x, rfl, rfl, hd2, by decide, by decide, seqIndex_of (Int.le_refl 0) (by rw [List.length_map, List.length_cons]; omega), rfl, ?_⟩
      refine ⟨_, rfl, l, _, 1, 1, rfl, rfl, (show (upd H2 d _) l = _ by rw [upd_ne nld]; exact hl2), rfl, ?_⟩
      refine ⟨rfl, ((kp.trans (.of sm)).d).l, upd_same, ?_⟩
      rw [upd_ne nld.symm, upd_same]
      rfl
    · refine iteF ?_
      have kp2 := kp.trans (Keep.of h)
      have hl2 := h _ _ hl
      have hd2 := h _ _ hd
      clear hl hd hl0 hd0 hm2
      refine ⟨_, rfl, l, _, 1, _, rfl, rfl, SqL.of hl2, rfl, cur, 2, rfl, rfl, _, rfl, ite2 (fun c1 => ?_) (fun c1 => ?_)⟩
      · -- drawn = source[1] % many
        refine ⟨_, rfl, l, _, 1, _, rfl, rfl, SqL.of hl2, rfl, _, rfl, cur, many, rfl, rfl, hm, ?_⟩
        refine ⟨_, rfl, l, _, 1, _, rfl, rfl, SqL.of hl2, rfl, _, rfl, cur, many, rfl, rfl, wide_div hm hw (by decide) (by decide), ?_⟩
        refine ⟨_, rfl, l, _, 1, 1, rfl, rfl, hl2, rfl, _, rfl, ?_⟩
        refine q _ cnt _ (Int.emod_nonneg _ (by omega)) (Int.emod_lt_of_pos _ hm) ⟨⟨cur / many, ds, upd_same, by rw [upd_ne nld.symm]; exact hd2⟩, m0, m1, c0, nld⟩ (by omega) kp2.l
      · refine ⟨_, rfl, l, _, 3, _, rfl, rfl, SqL.of hl2, rfl, cnt, 1, rfl, rfl, _, rfl, l, _, 3, 3, rfl, rfl, hl2, rfl, ?_⟩
        have hl3 : (upd H2 l (.lst [.ref d, .int cur, .int mix, .int (cnt + 1)])) l = some (.lst [.ref d, .int cur, .int mix, .int (cnt + 1)]) := upd_same
        have cc : (cnt + 1 + 3).natAbs < 2 ^ 64 := by omega
        refine ⟨_, rfl, l, _, 2, _, rfl, rfl, SqL.of hl3, rfl, mix, 7, rfl, rfl, _, rfl, l, _, 3, _, rfl, rfl, SqL.of hl3, rfl, cnt + 1, 3, rfl, rfl, cnt + 1 + 3, 3, rfl, rfl, ⟨by decide, by decide, cc⟩, mix + 7, _, rfl, rfl, .inl ⟨by omega, by unfold M61 at m1; omega⟩, ?_⟩
        refine ⟨_, rfl, _, rfl, l, _, 3, _, rfl, rfl, SqL.of hl3, rfl, 1000081, cnt + 1, rfl, rfl, .inl ⟨by decide, by decide⟩, _, _, rfl, rfl, 2, 61, rfl, rfl, ⟨by decide, by decide, by decide⟩, _, 1, rfl, rfl, _, _, rfl, rfl, (by decide : (0 : Int) < 2 ^ Int.toNat 61 - 1), ?_⟩
        refine ⟨_, rfl, _, 5, rfl, rfl, ⟨by decide, by decide, m61_small _⟩, 10, 18, rfl, rfl, ⟨by decide, by decide, by decide⟩, _, 9, rfl, rfl, _, _, rfl, rfl, (by decide : (0 : Int) < 10 ^ Int.toNat 18 + 9), _, 128, rfl, rfl, ⟨by decide, by decide⟩, _, rfl, _, many, rfl, rfl, hm, ?_⟩
        exact q _ (cnt + 1) _ (Int.emod_nonneg _ (by omega)) (Int.emod_lt_of_pos _ hm) ⟨⟨cur, ds, hl3, by rw [upd_ne nld.symm]; exact hd2⟩, m0, m1, by omega, nld⟩ (by omega) kp2.l
theorem m61_is : (2 : Int) ^ (61 : Int).toNat - 1 = M61 := by decide
def spSource (K : PySem.W.Frag) : Sp := fun vs H Q _ => ∃ (a : Addr) (ns : List Int), vs = [.ref a] ∧ SqL K H a (ns.map V.int) ∧ ns.length ≤ 63 ∧ ∀ l d mix H', H l = none → H d = none → Same H H' → Src H' l d mix 0 → Q (.ref l) H'
theorem ok_lawsource {f : Addr} {fd : FuncData} (F : Fun K "_law_source" "_law_source" s_lawsource f fd) (B : Bi mg) : FnOk P w K mg base CX0 1 f fd ["script"] (spSource K) := by
  refine F.ok sc_lawsource (fun vs H Q E h => ?_) (fun cdv A outer s H vs Q E hr h => ?_)
  · obtain ⟨a, ns, rfl, _⟩ := h
    rfl
  · obtain ⟨a, ns, rfl, hS, hn, q⟩ := h
    refine ⟨_, (pss_cons (ps_set (i := 1) sc_lawsource.nd rfl (Or.inl rfl) pe_int)
 (pss_cons (ps_set (i := 2) sc_lawsource.nd rfl (Or.inl rfl) (pe_lst pa_nil))
 (pss_cons (ps_for PassesOwn.never rfl (pi_list (pv 0)) (pg_name (i := 3) sc_lawsource.nd rfl (Or.inl rfl))
 (pss_cons (ps_set (i := 1) sc_lawsource.nd rfl (Or.inl rfl) (pe_op op_mod (pe_op op_add (pe_op op_mul (pv 1) pe_int) (pv 3)) (pe_op op_sub (pe_op op_pow pe_int pe_int) pe_int)))
 (pss_cons (ps_set (i := 4) sc_lawsource.nd rfl (Or.inl rfl) (pe_callB (id := "max") (call_max2 rfl) (by rfl) B.n_max (by decide +kernel) (pa_cons (pv 3) (pa_cons (pe_op op_sub pe_int (pv 3)) pa_nil))))
 (pss_one (ps_if (pt_cmpR op_ge (pv 4) (pe_op op_pow pe_int pe_int) (nomark _))
 (pss_one (ps_expr (pe_bm PySem.F.plainAttrs_list PySem.F.slot_list_append PySem.F.type_list_append mt_append (pv 2) (pa_cons (pe_op op_sub (pv 4) (pe_op op_pow pe_int pe_int)) pa_nil))))
 pss_nil)))))
 (pss_one (ps_ret (pe_lst (pa_cons (pv 2) (pa_cons pe_int (pa_cons (pv 1) (pa_cons pe_int pa_nil)))))))))), ?_⟩
    refine ⟨Nat.zero_le _, fun d hd => ?_⟩
    refine ⟨_, rfl, a, rfl, ⟨_, (same_new hd).seq hS⟩, for_list (K := K) (a := a) (xs := ns.map V.int) (fun i σ H' => Same H H' ∧ ∃ mix ds y3 y4, σ = [some (.ref a), some (.int mix), some (.ref d), y3, y4] ∧ 0 ≤ mix ∧ mix < M61 ∧ ds.length ≤ i ∧ H' d = some (.lst (List.map V.int ds)))
      ⟨same_new hd, 271828182845904, [], none, none, rfl, by decide, by decide, Nat.le_refl _, upd_same⟩ (fun i σ H' _ h => h.1.seq hS) ?_ ?_⟩
    · rintro i x σ H' hi ⟨sm, mix, ds, y3, y4, rfl, m0, m1, hlen, hdd⟩
      have hil : i < ns.length := by
        have := (List.getElem?_eq_some_iff.mp hi).1
        rwa [List.length_map] at this
      obtain ⟨c, hc, rfl⟩ := map_at hi
      refine ⟨_, rfl, mix, 1000033, rfl, rfl, .inr ⟨by decide, by decide⟩, _, rfl, _, c, rfl, rfl, 2, 61, rfl, rfl, ⟨by decide, by decide, by decide⟩, _, 1, rfl, rfl, _, _, rfl, rfl, (by decide : (0 : Int) < 2 ^ Int.toNat 61 - 1), ?_⟩
      rw [m61_is]
      have m0' : 0 ≤ (mix * 1000033 + c) % M61 := Int.emod_nonneg _ (by decide)
      have m1' : (mix * 1000033 + c) % M61 < M61 := Int.emod_lt_of_pos _ (by decide)
      refine ⟨_, rfl, _, rfl, 0, c, rfl, rfl, c, 0 - c, rfl, ?_⟩
      generalize (if 0 - c > c then 0 - c else c) = sp
      refine ⟨_, rfl, 10, 18, rfl, rfl, ⟨by decide, by decide, by decide⟩, _, _, rfl, rfl, _, rfl, ite2 (fun _ => ?_) (fun _ => ?_)⟩
      · refine ⟨_, rfl, .inl ⟨rfl, _, SqL.of hdd⟩, _, rfl, 10, 18, rfl, rfl, ⟨by decide, by decide, by decide⟩, _, _, rfl, rfl, d, _, _, rfl, rfl, hdd, (by rw [List.length_map]; exact small1000 (by omega)), ?_⟩
        refine ⟨fun b o e => ?_, (mix * 1000033 + c) % M61, ds ++ [sp - 10 ^ Int.toNat 18], _, _, rfl, m0', m1', by rw [List.length_append]; show ds.length + 1 ≤ i + 1; omega, ?_⟩
        · rw [upd_ne (ne_of_none e hd)]
          exact sm _ _ e
        · rw [upd_same, List.map_append]
          rfl
      · exact ⟨sm, (mix * 1000033 + c) % M61, ds, _, _, rfl, m0', m1', by omega, hdd⟩
    · rintro σ H' ⟨sm, mix, ds, y3, y4, rfl, m0, m1, hlen, hdd⟩
      refine ⟨_, rfl, _, rfl, (by show 4 ≤ sizeLine; exact Nat.le_of_lt (small1000 (by decide))), fun l hl => ?_⟩
      have ndl : d ≠ l := ne_of_none hdd hl
      refine q l d mix _ (sm.free hl) hd (sm.trans (same_new hl)) ⟨⟨0, ds, upd_same, by rw [upd_ne ndl]; exact hdd⟩, m0, m1, Int.le_refl 0, ndl.symm⟩
end
theorem at3 {a b c z : Int} (h0 : 0 ≤ z) (h : z < 3) : ∃ k, atI [V.int a, V.int b, V.int c] z = some (.int k) ∧ (k = a ∨ k = b ∨ k = c) := by
  have : z = 0 ∨ z = 1 ∨ z = 2 := by omega
  rcases this with e | e | e
  · subst e
    exact ⟨a, rfl, .inl rfl⟩
  · subst e
    exact ⟨b, rfl, .inr (.inl rfl)⟩
  · subst e
    exact ⟨c, rfl, .inr (.inr rfl)⟩
section
variable {P : Program} {w : World} {K : PySem.W.Frag} {mg : Str → Option Value} {base : Heap}
def spRow : Sp := fun vs H Q _ => ∃ (l d : Addr) (mix cnt many wide : Int), vs = [.ref l, .int many, .int wide] ∧ Src H l d mix cnt ∧ cnt < 500000 ∧ 0 ≤ many ∧ many ≤ 12 ∧ 2 ≤ wide ∧ wide < 1073741824 ∧
  ∀ p ks cnt' H', H p = none → Src H' l d mix cnt' → cnt' ≤ cnt + 3 + 2 * many → Keep H H' l d → H' p = some (.lst (List.map V.int ks)) → (ks.length : Int) ≤ many → (∀ k ∈ ks, 2 ≤ k ∧ k ≤ wide) → Q (.ref p) H'
theorem ok_lawrow {f : Addr} {fd : FuncData} (F : Fun K "_law_row" "_law_row" s_lawrow f fd) (B : Bi mg) (D_lawdraw : Df P w K mg base 1 "_law_draw" ["source", "many"] spDraw) : FnOk P w K mg base CX0 2 f fd ["source", "many", "wide"] spRow := by
  refine F.ok sc_lawrow (fun vs H Q E h => ?_) (fun cdv A outer s H vs Q E hr h => ?_)
  · obtain ⟨l, d, mix, cnt, many, wide, rfl, _⟩ := h
    rfl
  · obtain ⟨l, d, mix, cnt, many, wide, rfl, S, hc, hm0, hm1, hw0, hw1, q⟩ := h
    refine ⟨_, (pss_cons (ps_par (i := 3) (j := 4) (by rfl) sc_lawrow.nd rfl rfl (by decide) rfl rfl (pa_cons (pe_callD D_lawdraw (hr.mono (by omega)) (by rfl) (pa_cons (pv 0) (pa_cons pe_int pa_nil))) (pa_cons (pe_op op_add pe_int (pe_callD D_lawdraw (hr.mono (by omega)) (by rfl) (pa_cons (pv 0) (pa_cons (pe_op op_sub (pv 2) pe_int) pa_nil)))) pa_nil)) (by rfl))
 (pss_cons (ps_set (i := 5) sc_lawrow.nd rfl (Or.inl rfl) (pe_lst pa_nil))
 (pss_cons (ps_for PassesOwn.never rfl (pi_range1 (by rfl) B.n_range (pa_cons (pe_callD D_lawdraw (hr.mono (by omega)) (by rfl) (pa_cons (pv 0) (pa_cons (pe_op op_add (pv 1) pe_int) pa_nil))) pa_nil)) (pg_name (i := 6) sc_lawrow.nd rfl (Or.inl rfl))
 (pss_cons (ps_set (i := 7) sc_lawrow.nd rfl (Or.inl rfl) (pe_lst (pa_cons (pe_op op_add pe_int (pe_callD D_lawdraw (hr.mono (by omega)) (by rfl) (pa_cons (pv 0) (pa_cons (pe_op op_sub (pv 2) pe_int) pa_nil)))) (pa_cons (pe_op op_add pe_int (pe_callD D_lawdraw (hr.mono (by omega)) (by rfl) (pa_cons (pv 0) (pa_cons (pe_callB (id := "min") (call_min2 rfl) (by rfl) B.n_min (by decide +kernel) (pa_cons pe_int (pa_cons (pe_op op_sub (pv 2) pe_int) pa_nil))) pa_nil)))) (pa_cons (pv 4) pa_nil)))))
 (pss_one (ps_expr (pe_bm PySem.F.plainAttrs_list PySem.F.slot_list_append PySem.F.type_list_append mt_append (pv 5) (pa_cons (pe_ix (r := rIxL K) ix_list (pv 7) (pv 3) (fun _ _ => rfl)) pa_nil))))))
 (pss_one (ps_ret (pv 5)))))), ?_⟩
    refine ⟨_, rfl, l, d, mix, cnt, 3, rfl, S, by omega, by omega, by decide, fun z1 cnt1 H1 z10 z11 S1 hc1 k1 => ?_⟩
    refine ⟨_, rfl, _, rfl, wide, 1, rfl, rfl, l, d, mix, cnt1, wide - 1, rfl, S1, by omega, by omega, by omega, fun z2 cnt2 H2 z20 z21 S2 hc2 k2 => ?_⟩
    refine ⟨2, z2, rfl, rfl, _, _, rfl, ?_⟩
    -- found = []
    refine ⟨Nat.zero_le _, fun p hp => ?_⟩
    have npl := S2.nel hp
    have npd := S2.ned hp
    have k3 : Keep H (upd H2 p (.lst [])) l d := (k1.trans k2).new hp
    have hpH : H p = none := (k1.trans k2).free S2 hp
    have S3 : Src (upd H2 p (.lst [])) l d mix cnt2 := S2.same (same_new hp)
    -- for time in range(..)
    refine ⟨_, rfl, _, rfl, many, 1, rfl, rfl, l, d, mix, cnt2, many + 1, rfl, S3, by omega, by omega, by omega, fun z3 cnt3 H4 z30 z31 S4 hc3 k4 => ?_⟩
    have hp4 := k4 p _ upd_same npl npd
    refine ⟨z3, rfl, by omega, by omega, for_range (lo := 0) (n := z3.toNat) (fun i σ H' => ∃ ks cnt' y6 y7, σ = [some (.ref l), some (.int many), some (.int wide), some (.int z1), some (.int (2 + z2)), some (.ref p), y6, y7] ∧ Keep H H' l d ∧ Src H' l d mix cnt' ∧ cnt' ≤ cnt + 3 + 2 * i ∧ H' p = some (.lst (List.map V.int ks)) ∧ ks.length = i ∧ ∀ k ∈ ks, 2 ≤ k ∧ k ≤ wide)
      ⟨[], cnt3, none, none, rfl, k3.trans k4, S4, by omega, hp4, rfl, fun k h => by cases h⟩ ?_ ?_⟩
    · rintro i σ H5 hi ⟨ks, c5, y6, y7, rfl, k5, S5, hc5, hp5, hlen, hks⟩
      refine ⟨_, rfl, _, rfl, wide, 1, rfl, rfl, l, d, mix, c5, wide - 1, rfl, S5, by omega, by omega, by omega, fun z6 c6 H6 z60 z61 S6 hc6 k6 => ?_⟩
      refine ⟨2, z6, rfl, rfl, _, rfl, _, rfl, wide, 1, rfl, rfl, 4, wide - 1, rfl, ?_⟩
      have hmin : (0 : Int) < (if wide - 1 < 4 then wide - 1 else 4) ∧ (if wide - 1 < 4 then wide - 1 else 4) ≤ wide - 1 ∧ (if wide - 1 < 4 then wide - 1 else 4) ≤ 4 := by
        split <;> omega
      generalize (if wide - 1 < 4 then wide - 1 else 4) = mn at hmin
      refine ⟨l, d, mix, c6, mn, rfl, S6, by omega, by omega, by omega, fun z7 c7 H7 z70 z71 S7 hc7 k7 => ?_⟩
      have k57 := k6.trans k7
      have hp7 := k57 p _ hp5 npl npd
      refine ⟨2, z7, rfl, rfl, _, rfl, (by show 3 ≤ sizeLine; exact Nat.le_of_lt (small1000 (by decide))), fun t ht => ?_⟩
      have ntp : t ≠ p := fun z => by rw [z, hp7] at ht; cases ht
      obtain ⟨k, hk, hk3⟩ := at3 (a := 2 + z6) (b := 2 + z7) (c := 2 + z2) z10 z11
      have hp8 : (upd H7 t (.lst [.int (2 + z6), .int (2 + z7), .int (2 + z2)])) p = some (.lst (List.map V.int ks)) := by rw [upd_ne ntp.symm]; exact hp7
      refine ⟨_, rfl, .inl ⟨rfl, _, SqL.of hp8⟩, _, rfl, _, rfl, t, _, z1, .int k, rfl, rfl, SqL.of upd_same, hk, p, _, _, rfl, rfl, hp8, (by rw [List.length_map]; exact small1000 (by omega)), ?_⟩
      have S8 : Src (upd H7 t (.lst [.int (2 + z6), .int (2 + z7), .int (2 + z2)])) l d mix c7 := S7.same (same_new ht)
      have k8 : Keep H (upd H7 t (.lst [.int (2 + z6), .int (2 + z7), .int (2 + z2)])) l d := (k5.trans k57).new ht
      refine ⟨ks ++ [k], c7, _, _, rfl, ?_, ?_, by omega, ?_, by rw [List.length_append, hlen]; rfl, ?_⟩
      · intro b o e n1 n2
        have nb : b ≠ p := fun z => by rw [z, hpH] at e; cases e
        rw [upd_ne nb]
        exact k8 b o e n1 n2
      · obtain ⟨cur, ds, h1, h2⟩ := S8.ob
        exact ⟨⟨cur, ds, by rw [upd_ne npl.symm]; exact h1, by rw [upd_ne npd.symm]; exact h2⟩, S8.m0, S8.m1, S8.c0, S8.ne⟩
      · rw [upd_same, List.map_append]
        rfl
      · intro x hx
        rcases List.mem_append.mp hx with h | h
        · exact hks x h
        · have e := List.mem_singleton.mp h
          subst e
          omega
    · rintro σ H5 ⟨ks, c5, y6, y7, rfl, k5, S5, hc5, hp5, hlen, hks⟩
      refine ⟨_, rfl, ?_⟩
      exact q p ks c5 H5 hpH S5 (by omega) k5 hp5 (by omega) hks
end
/-! ### the same data -/
mutual
def ld : PyData → Bool
  | .none => true
  | .bool _ => true
  | .int _ => true
  | .str x => PyData.canLay0 (.str x)
  | .list xs => decide (xs.length ≤ 100000) && ldAll xs
  | _ => false
def ldAll : List PyData → Bool
  | [] => true
  | x :: xs => ld x && ldAll xs
end
theorem ld_at : ∀ {ds : List PyData} {i : Nat} {d : PyData}, ldAll ds = true → ds[i]? = some d → ld d = true
  | x :: xs, 0, d, h, e => by
    cases e
    exact (Bool.and_eq_true_iff.mp h).1
  | x :: xs, i + 1, d, h, e => ld_at (Bool.and_eq_true_iff.mp h).2 e
section
variable {P : Program} {w : World} {K : PySem.W.Frag} {mg : Str → Option Value} {base : Heap}
/-- both show the same data; n: its depth stays below it -/
def spSame (K : PySem.W.Frag) (n : Nat) : Sp := fun vs H Q _ => ∃ (x y : V) (d : PyData), vs = [x, y] ∧ Dp K H x d ∧ Dp K H y d ∧ ld d = true ∧ d.depth < n ∧ ∀ H', Same H H' → Q (.bl true) H'
theorem ok_lawsame_step {f : Addr} {fd : FuncData} {n : Nat} (F : Fun K "_law_same" "_law_same" s_lawsame f fd) (B : Bi mg) (D_lawsame : Df P w K mg base (n + 1) "_law_same" ["found", "wanted"] (spSame K n)) : FnOk P w K mg base CX0 (n + 2) f fd ["found", "wanted"] (spSame K (n + 1)) := by
  refine F.ok sc_lawsame (fun vs H Q E h => ?_) (fun cdv A outer s H vs Q E hr h => ?_)
  · obtain ⟨x, y, d, rfl, _⟩ := h
    rfl
  · obtain ⟨x, y, d, rfl, dx, dy, id', hdep, q⟩ := h
    refine ⟨_, (pss_cons (ps_if (pt_cmpR op_isN (pv 1) pe_non (nomark _))
 (pss_one (ps_ret (pe_cmpR op_isN (pv 0) pe_non (nomark _))))
 pss_nil)
 (pss_cons (ps_if (pt_val (pe_callB (id := "isinstance") call_isi (by rfl) B.n_isinstance (by decide +kernel) (pa_cons (pv 1) (pa_cons (pe_bltn (v := .ty "bool") (by rfl) B.n_bool (by decide +kernel) rfl) pa_nil))))
 (pss_one (ps_ret (pe_and (pe_callB (id := "isinstance") call_isi (by rfl) B.n_isinstance (by decide +kernel) (pa_cons (pv 0) (pa_cons (pe_bltn (v := .ty "bool") (by rfl) B.n_bool (by decide +kernel) rfl) pa_nil))) (pe_one (pe_cmpR (op_eqD hr.units) (pv 0) (pv 1) (nomark _))))))
 pss_nil)
 (pss_cons (ps_if (pt_val (pe_callB (id := "isinstance") call_isi (by rfl) B.n_isinstance (by decide +kernel) (pa_cons (pv 1) (pa_cons (pe_bltn (v := .ty "int") (by rfl) B.n_int (by decide +kernel) rfl) pa_nil))))
 (pss_one (ps_ret (pe_and (pe_callB (id := "isinstance") call_isi (by rfl) B.n_isinstance (by decide +kernel) (pa_cons (pv 0) (pa_cons (pe_bltn (v := .ty "int") (by rfl) B.n_int (by decide +kernel) rfl) pa_nil))) (pe_and (pe_not (pe_callB (id := "isinstance") call_isi (by rfl) B.n_isinstance (by decide +kernel) (pa_cons (pv 0) (pa_cons (pe_bltn (v := .ty "bool") (by rfl) B.n_bool (by decide +kernel) rfl) pa_nil)))) (pe_one (pe_cmpR (op_eqD hr.units) (pv 0) (pv 1) (nomark _)))))))
 pss_nil)
 (pss_cons (ps_if (pt_val (pe_callB (id := "isinstance") call_isi (by rfl) B.n_isinstance (by decide +kernel) (pa_cons (pv 1) (pa_cons (pe_bltn (v := .ty "str") (by rfl) B.n_str (by decide +kernel) rfl) pa_nil))))
 (pss_one (ps_ret (pe_and (pe_callB (id := "isinstance") call_isi (by rfl) B.n_isinstance (by decide +kernel) (pa_cons (pv 0) (pa_cons (pe_bltn (v := .ty "str") (by rfl) B.n_str (by decide +kernel) rfl) pa_nil))) (pe_one (pe_cmpR (op_eqD hr.units) (pv 0) (pv 1) (nomark _))))))
 pss_nil)
 (pss_cons (ps_if (pt_cmpR op_ne (pe_callB (id := "isinstance") call_isi (by rfl) B.n_isinstance (by decide +kernel) (pa_cons (pv 0) (pa_cons (pe_bltn (v := .ty "list") (by rfl) B.n_list (by decide +kernel) rfl) pa_nil))) (pe_callB (id := "isinstance") call_isi (by rfl) B.n_isinstance (by decide +kernel) (pa_cons (pv 1) (pa_cons (pe_bltn (v := .ty "list") (by rfl) B.n_list (by decide +kernel) rfl) pa_nil))) (nomark _))
 (pss_one (ps_ret pe_bl))
 pss_nil)
 (pss_cons (ps_if (PW.pt (pw_or (pt_cmpR op_ne (pe_callB (id := "isinstance") call_isi (by rfl) B.n_isinstance (by decide +kernel) (pa_cons (pv 0) (pa_cons (pe_bltn (v := .ty "tuple") (by rfl) B.n_tuple (by decide +kernel) rfl) pa_nil))) (pe_callB (id := "isinstance") call_isi (by rfl) B.n_isinstance (by decide +kernel) (pa_cons (pv 1) (pa_cons (pe_bltn (v := .ty "tuple") (by rfl) B.n_tuple (by decide +kernel) rfl) pa_nil))) (nomark _)) (pw_or1 (pt_cmpR op_ne (pe_callB (id := "len") (r := rLenK K) call_lenK (by rfl) B.n_len (by decide +kernel) (pa_cons (pv 0) pa_nil)) (pe_callB (id := "len") (r := rLenK K) call_lenK (by rfl) B.n_len (by decide +kernel) (pa_cons (pv 1) pa_nil)) (nomark _)))))
 (pss_one (ps_ret pe_bl))
 pss_nil)
 (pss_one (ps_ret (pe_cmpR (op_eqD hr.units) (pe_lc (own := [("k", 2)]) (g := gName 2) rfl sc_lawsame.nd (pi_range1 (by rfl) B.n_range (pa_cons (pe_callB (id := "len") (r := rLenK K) call_lenK (by rfl) B.n_len (by decide +kernel) (pa_cons (pv 1) pa_nil)) pa_nil)) (blkOk_by (own := [("k", 2)]) (N := ["found", "wanted", "k"]) (sc := defScope s_lawsame) (by decide +kernel)) (fun _ _ _ _ _ => (pg_name (i := 2) sc_lawsame.nd rfl (Or.inl rfl))) (fun _ _ _ _ _ => pts_one (pt_not (pt_val (pe_callD D_lawsame (hr.mono (by omega)) (by rfl) (pa_cons (pe_ix (r := rIxL K) ix_list (pv 0) (pv 2) (fun _ _ => rfl)) (pa_cons (pe_ix (r := rIxL K) ix_list (pv 1) (pv 2) (fun _ _ => rfl)) pa_nil)))))) (fun _ _ _ _ _ => (pv 2))) (pe_lst pa_nil) (nomark _)))))))))), ?_⟩
    match d, dx, dy, id', hdep, q with
    | .none, .non, .non, _, _, q =>
      refine ⟨_, rfl, rfl, _, rfl, ite2 (fun _ => ?_) (fun c => absurd (decide_eq_true rfl) c)⟩
      refine ⟨_, rfl, rfl, ?_⟩
      rw [decide_eq_true (rfl : V.non = V.non)]
      exact q H (Same.refl H)
    | .bool j, .bl _, .bl _, _, _, q =>
      refine ⟨_, rfl, rfl, _, rfl, ite2 (fun c => by cases of_decide_eq_true c) (fun _ => ?_)⟩
      refine ⟨_, rfl, _, _, _, _, true, rfl, .ty _, (.base (.bl j)), kit_ty (by decide +kernel), _, rfl, iteT ?_⟩
      refine ⟨_, rfl, _, _, _, _, true, rfl, .ty _, (.base (.bl j)), kit_ty (by decide +kernel), _, rfl, iteT ?_⟩
      refine ⟨_, rfl, _, rfl, _, _, .bl j, .bl j, rfl, rfl, ?_⟩
      rw [PySem.SeqAt.eqv_refl (.bool j) rfl]
      exact q H (Same.refl H)
    | .int j, .int _, .int _, _, _, q =>
      refine ⟨_, rfl, rfl, _, rfl, ite2 (fun c => by cases of_decide_eq_true c) (fun _ => ?_)⟩
      refine ⟨_, rfl, _, _, _, _, _, rfl, .ty _, (.base (.int j)), kit_ty (by decide +kernel), _, rfl, iteF ?_⟩
      refine ⟨_, rfl, _, _, _, _, _, rfl, .ty _, (.base (.int j)), kit_ty (by decide +kernel), _, rfl, iteT ?_⟩
      refine ⟨_, rfl, _, _, _, _, _, rfl, .ty _, (.base (.int j)), kit_ty (by decide +kernel), _, rfl, iteT ?_⟩
      refine ⟨_, rfl, _, _, _, _, false, rfl, .ty _, (.base (.int j)), kit_ty (by decide +kernel), _, rfl, _, rfl, iteT ?_⟩
      refine ⟨_, rfl, _, rfl, _, _, .int j, .int j, rfl, rfl, ?_⟩
      rw [PySem.SeqAt.eqv_refl (.int j) rfl]
      exact q H (Same.refl H)
    | .str j, .str _, .str _, ie, _, q =>
      have js : PyData.canLay0 (.str j) = true := ie
      have jsh : SeqAt.shaped (.str j) = true := Bool.and_eq_true_iff.mpr ⟨js, rfl⟩
      refine ⟨_, rfl, rfl, _, rfl, ite2 (fun c => by cases of_decide_eq_true c) (fun _ => ?_)⟩
      refine ⟨_, rfl, _, _, _, _, _, rfl, .ty _, (.base (.str j)), kit_ty (by decide +kernel), _, rfl, iteF ?_⟩
      refine ⟨_, rfl, _, _, _, _, _, rfl, .ty _, (.base (.str j)), kit_ty (by decide +kernel), _, rfl, iteF ?_⟩
      refine ⟨_, rfl, _, _, _, _, _, rfl, .ty _, (.base (.str j)), kit_ty (by decide +kernel), _, rfl, iteT ?_⟩
      refine ⟨_, rfl, _, _, _, _, _, rfl, .ty _, (.base (.str j)), kit_ty (by decide +kernel), _, rfl, iteT ?_⟩
      refine ⟨_, rfl, _, rfl, _, _, .str j, .str j, jsh, jsh, ?_⟩
      rw [PySem.SeqAt.eqv_refl (.str j) js]
      exact q H (Same.refl H)
    | .list es, .lst (a := a) (xs := xs) hx hxa, .lst (a := b) (xs := ys) hs hall, ie, hdep, q =>
      refine ⟨_, rfl, rfl, _, rfl, ite2 (fun c => by cases of_decide_eq_true c) (fun _ => ?_)⟩
      refine ⟨_, rfl, _, _, _, _, _, rfl, .ty _, (ty_seq hs), kit_ty (by decide +kernel), _, rfl, iteF ?_⟩
      refine ⟨_, rfl, _, _, _, _, _, rfl, .ty _, (ty_seq hs), kit_ty (by decide +kernel), _, rfl, iteF ?_⟩
      refine ⟨_, rfl, _, _, _, _, _, rfl, .ty _, (ty_seq hs), kit_ty (by decide +kernel), _, rfl, iteF ?_⟩
      have ie2 := Bool.and_eq_true_iff.mp ie
      have l2 : es.length ≤ 100000 := of_decide_eq_true ie2.1
      have lx := dp_len hxa
      have ly := dp_len hall
      refine ⟨_, rfl, _, _, _, _, true, rfl, .ty _, (ty_seq hx), kit_ty (by decide +kernel), _, rfl, _, _, _, _, true, rfl, .ty _, (ty_seq hs), kit_ty (by decide +kernel), rfl, _, rfl, iteF ?_⟩
      refine ⟨_, rfl, _, _, _, _, false, rfl, .ty _, (ty_seq hx), kit_ty (by decide +kernel), _, rfl, _, _, _, _, false, rfl, .ty _, (ty_seq hs), kit_ty (by decide +kernel), rfl, _, rfl, iteF ?_⟩
      refine ⟨_, rfl, a, xs, rfl, .inl hx, _, rfl, b, ys, rfl, .inl hs, rfl, _, rfl, ite2 (fun c => ?_) (fun c => ?_)⟩
      · rw [lx, ly] at c
        simp at c
      · refine ⟨_, rfl, b, ys, rfl, .inl hs, (ys.length : Int), rfl, by omega, by omega, fun D hD => lc_range (lo := 0) (n := (ys.length : Int).toNat)
          (fun i H' => Same H H' ∧ H' D = some (.lst [])) ⟨same_new hD, upd_same⟩ ?_ ?_⟩
        · rintro i H' hi ⟨sm, hb⟩
          have hi' : i < es.length := by omega
          have g2 : es[i]? = some es[i] := List.getElem?_eq_getElem hi'
          obtain ⟨v1, hv1, dv1⟩ := dp_at hxa g2
          obtain ⟨v2, hv2, dv2⟩ := dp_at hall g2
          have dep : (es[i]).depth < n := by
            have := depth_at g2
            have h3 : PyData.depthAll es + 1 < n + 1 := hdep
            omega
          refine ⟨rfl, _, rfl, _, rfl, a, xs, 0 + (i : Int), v1, rfl, rfl, sm.seq hx, at_of (by omega) hv1, _, rfl, _, rfl, b, ys, 0 + (i : Int), v2, rfl, rfl, sm.seq hs, at_of (by omega) hv2, ?_⟩
          refine ⟨v1, v2, _, rfl, Dp.same sm dv1, Dp.same sm dv2, ld_at ie2.2 g2, dep, fun H2 sm2 => ?_⟩
          exact ⟨_, rfl, iteF ⟨sm.trans sm2, sm2 _ _ hb⟩⟩
        · rintro H' ⟨sm, hb⟩
          refine ⟨Nat.zero_le _, fun p hp => ?_⟩
          have npD : D ≠ p := ne_of_none hb hp
          refine ⟨.list [], .list [], .lst (SqL.of (show (upd H' p (.lst [])) D = _ by rw [upd_ne npD]; exact hb)) .nil, .lst (SqL.of upd_same) .nil, shaped_ints [], shaped_ints [], ?_⟩
          exact q _ (sm.trans (same_new hp))
theorem ok_lawsame {f : Addr} {fd : FuncData} (F : Fun K "_law_same" "_law_same" s_lawsame f fd) (B : Bi mg) (g : mg "_law_same" = some (.ref f)) (b : Binds K fd ["found", "wanted"] []) : ∀ n : Nat, FnOk P w K mg base CX0 (n + 1) f fd ["found", "wanted"] (spSame K n)
  | 0 => ⟨fun vs H Q E h => by obtain ⟨x, y, d, _, _, _, _, z, _⟩ := h; exact absurd z (Nat.not_lt_zero _), fun A outer s H args us vs Q E hr e0 hb hv h => by obtain ⟨x, y, d, _, _, _, _, z, _⟩ := h; exact absurd z (Nat.not_lt_zero _)⟩
  | n + 1 => ok_lawsame_step F B (.mk' F (ok_lawsame F B g b n) g b)
end
section
variable {P : Program} {w : World} {K : PySem.W.Frag} {mg : Str → Option Value} {base : Heap} {c fI : Nat → Addr} {qn : Nat → Str} {cB : Addr}
def spOnce : Sp := fun vs H Q _ => ∃ (n k : Int), vs = [.int n, .int k] ∧ 2 ≤ k ∧ k < 1073741824 ∧ Q (.int (once n k)) H
theorem ok_lawonce {f : Addr} {fd : FuncData} (F : Fun K "_law_once" "_law_once" s_lawonce f fd) : FnOk P w K mg base CX0 1 f fd ["run", "one"] spOnce := by
  refine F.ok sc_lawonce (fun vs H Q E h => ?_) (fun cdv A outer s H vs Q E hr h => ?_)
  · obtain ⟨n, k, rfl, _⟩ := h
    rfl
  · obtain ⟨n, k, rfl, k1, k2, q⟩ := h
    refine ⟨_, (pss_one (ps_ret (pe_op op_add (pe_op op_fdiv (pv 0) (pv 1)) (pe_op op_mod (pv 0) (pv 1))))), ?_⟩
    exact ⟨_, rfl, _, rfl, n, k, rfl, rfl, ⟨by omega, k2⟩, _, rfl, _, rfl, n, k, rfl, rfl, (show 0 < k by omega), _, _, rfl, rfl, q⟩
def spSqz (K : PySem.W.Frag) : Sp := fun vs H Q _ => ∃ (n : Int) (a : Addr) (ks : List Int), vs = [.int n, .ref a] ∧ SqL K H a (ks.map V.int) ∧ Rpl ks ∧ Q (.int (sq n ks)) H
theorem ok_lawsqueezed {f : Addr} {fd : FuncData} (F : Fun K "_law_squeezed" "_law_squeezed" s_lawsqueezed f fd) (D_lawonce : Df P w K mg base 1 "_law_once" ["run", "one"] spOnce) : FnOk P w K mg base CX0 2 f fd ["run", "row"] (spSqz K) := by
  refine F.ok sc_lawsqueezed (fun vs H Q E h => ?_) (fun cdv A outer s H vs Q E hr h => ?_)
  · obtain ⟨n, a, ks, rfl, _⟩ := h
    rfl
  · obtain ⟨n, a, ks, rfl, hS, hk, q⟩ := h
    refine ⟨_, (pss_cons (ps_for PassesOwn.never rfl (pi_list (pv 1)) (pg_name (i := 2) sc_lawsqueezed.nd rfl (Or.inl rfl))
 (pss_one (ps_set (i := 0) sc_lawsqueezed.nd rfl (Or.inl rfl) (pe_callD D_lawonce (hr.mono (by omega)) (by rfl) (pa_cons (pv 0) (pa_cons (pv 2) pa_nil))))))
 (pss_one (ps_ret (pv 0)))), ?_⟩
    refine ⟨_, rfl, a, rfl, ⟨_, hS⟩, for_list (K := K) (a := a) (xs := ks.map V.int) (fun i σ H' => H' = H ∧ ∃ y, σ = [some (.int (sq n (ks.take i))), some (.ref a), y]) ⟨rfl, none, rfl⟩ (fun i σ H' _ h => by rw [h.1]; exact hS) ?_ ?_⟩
    · rintro i x σ H' hi ⟨rfl, y, rfl⟩
      obtain ⟨k, e, rfl⟩ := map_at hi
      have hm := hk k (List.mem_of_getElem? e)
      refine ⟨_, rfl, _, rfl, _, k, rfl, hm.1, hm.2, rfl, some (.int k), ?_⟩
      rw [List.take_add_one, e]
      show _ = [some (V.int (sq n (ks.take i ++ [k]))), _, _]
      rw [sq_concat]
      rfl
    · rintro σ H' ⟨rfl, y, rfl⟩
      rw [List.length_map, List.take_length]
      exact ⟨_, rfl, q⟩
end
end Sq
set_option Elab.async false
set_option linter.all false
set_option maxRecDepth 100000
set_option maxHeartbeats 4000000
set_option exponentiation.threshold 2000
namespace Sq
open PySem PySem.Spec PyProof.Rows L2 GenW
section
variable {P : Program} {w : World} {K : PySem.W.Frag} {mg : Str → Option Value} {base : Heap}
def spMany : Sp := fun vs H Q _ => ∃ (L k : Int), vs = [.int L, .int k] ∧ Q (.int (if L + 1 < k then L + 1 else k)) H
theorem ok_many {f : Addr} {fd : FuncData} (F : Fun K "many_for_one" "many_for_one" s_manyforone f fd) (B : Bi mg) : FnOk P w K mg base CX0 1 f fd ["length", "number"] spMany := by
  refine F.ok sc_manyforone (fun vs H Q E h => ?_) (fun cdv A outer s H vs Q E hr h => ?_)
  · obtain ⟨L, k, rfl, _⟩ := h
    rfl
  · obtain ⟨L, k, rfl, q⟩ := h
    refine ⟨_, (pss_one (ps_ret (pe_callB (id := "min") (call_min2 rfl) (by rfl) B.n_min (by decide +kernel) (pa_cons (pv 1) (pa_cons (pe_op op_add (pv 0) pe_int) pa_nil))))), ?_⟩
    exact ⟨_, rfl, _, rfl, _, _, rfl, rfl, _, _, rfl, q⟩
def spOne : Sp := fun vs H Q _ => ∃ (L : Nat) (k : Int), vs = [.int (L : Int), .int k] ∧ 2 ≤ k ∧ k ≤ 1000 ∧ ∀ p H', H p = none → Same H H' → H' p = some (.lst ((nats (oneO L k.toNat)).map V.int)) → Q (.ref p) H'
theorem ok_one {f : Addr} {fd : FuncData} (F : Fun K "origins_for_one" "origins_for_one" s_originsforone f fd) (B : Bi mg) (D_manyforone : Df P w K mg base 1 "many_for_one" ["length", "number"] spMany) : FnOk P w K mg base CX0 2 f fd ["length", "number"] spOne := by
  refine F.ok sc_originsforone (fun vs H Q E h => ?_) (fun cdv A outer s H vs Q E hr h => ?_)
  · obtain ⟨L, k, rfl, _⟩ := h
    rfl
  · obtain ⟨L, k, rfl, h2, h30, q⟩ := h
    refine ⟨_, (pss_one (ps_ret (pe_lc (own := [("left", 2)]) (g := gName 2) rfl sc_originsforone.nd (pi_range1 (by rfl) B.n_range (pa_cons (pe_callD D_manyforone (hr.mono (by omega)) (by rfl) (pa_cons (pv 0) (pa_cons (pv 1) pa_nil))) pa_nil)) (blkOk_by (own := [("left", 2)]) (N := ["length", "number", "left"]) (sc := defScope s_originsforone) (by decide +kernel)) (fun _ _ _ _ _ => (pg_name (i := 2) sc_originsforone.nd rfl (Or.inl rfl))) (fun _ _ _ _ _ => pts_nil) (fun _ _ _ _ _ => (pe_op op_add (pe_op op_mul (pe_op op_sub (pv 0) (pv 2)) (pv 1)) (pv 2)))))), ?_⟩
    have lim : sizeLine = 16777216 := sizeLine_eq
    obtain ⟨m, em⟩ : ∃ m : Int, m = (if (L : Int) + 1 < k then (L : Int) + 1 else k) := ⟨_, rfl⟩
    have hm : 1 ≤ m ∧ m ≤ 1000 ∧ m.toNat = min k.toNat (L + 1) := by
      rw [em]
      split <;> omega
    refine ⟨_, rfl, _, rfl, L, k, rfl, m, by rw [em], by omega, by omega, fun D hD => lc_range (lo := 0) (n := m.toNat) (fun j H' => Same H H' ∧ H' D = some (.lst ((nats ((List.range j).map fun l : Nat => (L - l) * k.toNat + l)).map V.int))) ⟨same_new hD, upd_same⟩ ?_ ?_⟩
    · rintro j H' hj ⟨s1, g1⟩
      refine ⟨rfl, ?_⟩
      refine ⟨_, rfl, _, rfl, _, _, rfl, rfl, _, rfl, _, k, rfl, rfl, .inr ⟨by omega, by omega⟩, _, rfl, _, _, rfl, rfl, _, g1, ?_, ?_, ?_⟩
      · rw [List.length_map, nats, List.length_map, List.length_map, List.length_range]
        omega
      · intro b o e
        have nb : b ≠ D := ne_of_none e hD
        rw [upd_ne nb]
        exact s1 b o e
      · rw [upd_same, List.range_succ, List.map_append, nats_app, List.map_append]
        have e : ((L : Int) - (0 + (j : Int))) * k + (0 + (j : Int)) = (((L - j) * k.toNat + j : Nat) : Int) := by
          rw [Int.natCast_add, Int.natCast_mul, Int.toNat_of_nonneg (by omega), Int.ofNat_sub (by omega), Int.zero_add]
        show some (HO.lst (_ ++ [V.int (((L : Int) - (0 + (j : Int))) * k + (0 + (j : Int)))])) = _
        rw [e]
        rfl
    · rintro H' ⟨s1, g1⟩
      refine q D H' hD s1 ?_
      rw [g1, hm.2.2]
      rfl
theorem ok_checknumberQ {f : Addr} {fd : FuncData} (F : Fun K "check_number" "check_number" s_checknumber f fd) : FnQ P w K mg base 1 f fd ["number", "least"] spCheckNumber := by
  refine fnq_of F sc_checknumber (fun vs H Q E h => ?_) (fun cdv A outer s H vs Q hr h => ?_)
  · obtain ⟨n, l, rfl, _⟩ := h
    rfl
  · obtain ⟨n, l, rfl, hl, q⟩ := h
    refine ⟨_, gsts_one (gst_if (gt_lt (ge_var (i := 0) rfl (by first | exact .inl rfl | exact .inr (.inl rfl) | exact .inr (.inr rfl))) (ge_var (i := 1) rfl (by first | exact .inl rfl | exact .inr (.inl rfl) | exact .inr (.inr rfl))) rfl) (gsts_one gst_never) gsts_nil), ?_⟩
    refine ⟨_, rfl, _, rfl, _, _, rfl, rfl, ite2 (fun c => ?_) (fun c => q)⟩
    have c' : n < l := of_decide_eq_true c
    omega
theorem ok_checklistQ {f : Addr} {fd : FuncData} (F : Fun K "check_list" "check_list" s_checklist f fd) (B : Bi mg) : FnQ P w K mg base 1 f fd ["replacements"] (spCheckList K) := by
  refine fnq_of F sc_checklist (fun vs H Q E h => ?_) (fun cdv A outer s H vs Q hr h => ?_)
  · obtain ⟨a, ks, rfl, _⟩ := h
    rfl
  · obtain ⟨a, ks, rfl, hS, hk, q⟩ := h
    refine ⟨_, gsts_one (gst_forEn (K0 := K) rfl rfl PassesOwn.never (by rfl) B.n_enumerate (ge_var (i := 0) rfl (by first | exact .inl rfl | exact .inr (.inl rfl) | exact .inr (.inr rfl))) (gg_tup rfl (ggs_cons (gg_name (i := 1) sc_checklist.nd rfl rfl) (ggs_cons (gg_name (i := 2) sc_checklist.nd rfl rfl) ggs_nil)))
      (gsts_one (gst_if (gt_lt (ge_var (i := 2) rfl (by first | exact .inl rfl | exact .inr (.inl rfl) | exact .inr (.inr rfl))) ge_int rfl) (gsts_one gst_never) gsts_nil))), ?_⟩
    refine ⟨_, rfl, a, ks.map V.int, rfl, hS, fun i σ H' => Same H H' ∧ ∃ y z, σ = [some (.ref a), y, z], ⟨Same.refl H, none, none, rfl⟩, fun i σ H' h => h.1.seq hS, ?_, ?_⟩
    · rintro i v σ H' T hi ⟨sm, y, z, rfl⟩ nT
      obtain ⟨k, hk', rfl⟩ := map_at hi
      refine ⟨T, _, rfl, .inl (.inl upd_same), rfl, _, _, rfl, _, _, rfl, rfl, ?_⟩
      refine ⟨_, rfl, _, _, rfl, rfl, ite2 (fun c => ?_) (fun c => ?_)⟩
      · have := hk k (List.mem_of_getElem? hk')
        have c' : k < 2 := of_decide_eq_true c
        omega
      · exact ⟨sm.trans (same_new nT), _, _, rfl⟩
    · rintro σ H' ⟨sm, y, z, rfl⟩
      exact q H' sm
theorem ok_manyQ {f : Addr} {fd : FuncData} (F : Fun K "many_for_one" "many_for_one" s_manyforone f fd) (B : Bi mg) : FnQ P w K mg base 1 f fd ["length", "number"] spMany := by
  refine fnq_of F sc_manyforone (fun vs H Q E h => ?_) (fun cdv A outer s H vs Q hr h => ?_)
  · obtain ⟨L, k, rfl, _⟩ := h
    rfl
  · obtain ⟨L, k, rfl, q⟩ := h
    refine ⟨_, gsts_one (gst_ret (ge_callB (id := "min") (cg_min2 rfl) (by rfl) B.n_min (by decide +kernel) (ga_cons (ge_var (i := 1) rfl (by first | exact .inl rfl | exact .inr (.inl rfl) | exact .inr (.inr rfl))) (ga_cons (ge_add (ge_var (i := 0) rfl (by first | exact .inl rfl | exact .inr (.inl rfl) | exact .inr (.inr rfl))) ge_int) ga_nil)))), ?_⟩
    exact ⟨_, rfl, _, rfl, _, _, rfl, rfl, _, _, rfl, q⟩
theorem ok_oneQ {f : Addr} {fd : FuncData} (F : Fun K "origins_for_one" "origins_for_one" s_originsforone f fd) (B : Bi mg) (D_manyforone : Dq P w K mg base 1 "many_for_one" ["length", "number"] spMany) : FnQ P w K mg base 2 f fd ["length", "number"] spOne := by
  refine fnq_of F sc_originsforone (fun vs H Q E h => ?_) (fun cdv A outer s H vs Q hr h => ?_)
  · obtain ⟨L, k, rfl, _⟩ := h
    rfl
  · obtain ⟨L, k, rfl, h2, h30, q⟩ := h
    refine ⟨_, gsts_one (gst_ret (ge_lc (own := [("left", 2)]) (g := gName 2) rfl sc_originsforone.nd (gi_range1 (by rfl) B.n_range (ga_cons (ge_callU D_manyforone (hr.mono (by omega)) (by rfl) (ga_cons (ge_var (i := 0) rfl (by first | exact .inl rfl | exact .inr (.inl rfl) | exact .inr (.inr rfl))) (ga_cons (ge_var (i := 1) rfl (by first | exact .inl rfl | exact .inr (.inl rfl) | exact .inr (.inr rfl))) ga_nil))) ga_nil)) (blkOk_by (own := [("left", 2)]) (N := ["length", "number", "left"]) (sc := defScope s_originsforone) (by decide +kernel)) (fun _ _ _ _ _ => (gg_put (i := 2) sc_originsforone.nd rfl (Or.inl rfl))) (fun _ _ _ _ _ => gts_nil) (fun _ _ _ _ _ => (ge_add (ge_mul (ge_sub (ge_var (i := 0) rfl (by first | exact .inl rfl | exact .inr (.inl rfl) | exact .inr (.inr rfl))) (ge_var (i := 2) rfl (by first | exact .inl rfl | exact .inr (.inl rfl) | exact .inr (.inr rfl)))) (ge_var (i := 1) rfl (by first | exact .inl rfl | exact .inr (.inl rfl) | exact .inr (.inr rfl)))) (ge_var (i := 2) rfl (by first | exact .inl rfl | exact .inr (.inl rfl) | exact .inr (.inr rfl))))))), ?_⟩
    have lim : sizeLine = 16777216 := sizeLine_eq
    obtain ⟨m, em⟩ : ∃ m : Int, m = (if (L : Int) + 1 < k then (L : Int) + 1 else k) := ⟨_, rfl⟩
    have hm : 1 ≤ m ∧ m ≤ 1000 ∧ m.toNat = min k.toNat (L + 1) := by
      rw [em]
      split <;> omega
    refine ⟨_, rfl, _, rfl, L, k, rfl, m, by rw [em], by omega, by omega, fun D hD => lc_range (lo := 0) (n := m.toNat) (fun j H' => Same H H' ∧ H' D = some (.lst ((nats ((List.range j).map fun l : Nat => (L - l) * k.toNat + l)).map V.int))) ⟨same_new hD, upd_same⟩ ?_ ?_⟩
    · rintro j H' hj ⟨s1, g1⟩
      refine ⟨rfl, ?_⟩
      refine ⟨_, rfl, _, rfl, _, _, rfl, rfl, _, rfl, _, k, rfl, rfl, .inr ⟨by omega, by omega⟩, _, rfl, _, _, rfl, rfl, _, g1, ?_, ?_, ?_⟩
      · rw [List.length_map, nats, List.length_map, List.length_map, List.length_range]
        omega
      · intro b o e
        have nb : b ≠ D := ne_of_none e hD
        rw [upd_ne nb]
        exact s1 b o e
      · rw [upd_same, List.range_succ, List.map_append, nats_app, List.map_append]
        have e : ((L : Int) - (0 + (j : Int))) * k + (0 + (j : Int)) = (((L - j) * k.toNat + j : Nat) : Int) := by
          rw [Int.natCast_add, Int.natCast_mul, Int.toNat_of_nonneg (by omega), Int.ofNat_sub (by omega), Int.zero_add]
        show some (HO.lst (_ ++ [V.int (((L : Int) - (0 + (j : Int))) * k + (0 + (j : Int)))])) = _
        rw [e]
        rfl
    · rintro H' ⟨s1, g1⟩
      refine q D H' hD s1 ?_
      rw [g1, hm.2.2]
      rfl
end
end Sq
set_option Elab.async false
set_option linter.all false
set_option maxRecDepth 100000
set_option maxHeartbeats 4000000
set_option exponentiation.threshold 2000
namespace Sq
open PySem PySem.Spec PyProof.Rows L2
theorem flat_pre {f : Nat → List Nat} {fs : List Nat} {i a j : Nat} (e : fs[i]? = some a) (hj : j < (f a).length) : ((fs.take i).flatMap f ++ (f a).take j).length < (fs.flatMap f).length := by
  have h : fs = fs.take i ++ (a :: fs.drop (i + 1)) := by
    obtain ⟨hi, rfl⟩ := List.getElem?_eq_some_iff.mp e
    rw [← List.drop_eq_getElem_cons hi, List.take_append_drop]
  have e2 : (fs.flatMap f).length = ((fs.take i ++ (a :: fs.drop (i + 1))).flatMap f).length := by rw [← h]
  rw [e2, List.flatMap_append, List.length_append, List.length_append, List.flatMap_cons, List.length_append, List.length_take]
  omega
theorem pro_drop {ks : List Int} (h : ∀ k ∈ ks, 2 ≤ k) (j : Nat) : pro (ks.drop j) ≤ pro ks := by
  have e : pro ks = pro (ks.take j) * pro (ks.drop j) := by rw [← pro_app, List.take_append_drop]
  have a := pro_pos (ks := ks.take j) fun k hk => h k (List.mem_of_mem_take hk)
  have b := pro_pos (ks := ks.drop j) fun k hk => h k (List.mem_of_mem_drop hk)
  have := Int.mul_le_mul_of_nonneg_right a (show 0 ≤ pro (ks.drop j) by omega)
  omega
section
variable {P : Program} {w : World} {K : PySem.W.Frag} {mg : Str → Option Value} {base : Heap}
def spOrigins (K : PySem.W.Frag) : SpG := fun vs H Q _ => ∃ (L B : Nat) (a : Addr) (ks : List Int), vs = [.int (L : Int), .ref a] ∧ SqL K H a (ks.map V.int) ∧ (∀ k ∈ ks, 2 ≤ k ∧ k ≤ 1000) ∧ pro ks ≤ 10000 ∧ (L : Int) * pro ks < (B : Int) ∧
  ∀ H', Same H H' → Q ((nats (ordO L ks B)).map V.int) H'
theorem ok_origins {f : Addr} {fd : FuncData} (F : Fun K "origins" "origins" s_origins f fd) (B : Bi mg) (D_checknumber : Df P w K mg base 1 "check_number" ["number", "least"] spCheckNumber) (D_checklist : Df P w K mg base 1 "check_list" ["replacements"] (spCheckList K))
    (D_originsforone : Df P w K mg base 2 "origins_for_one" ["length", "number"] spOne) : GFn P w K mg base 3 f fd ["length", "replacements"] (spOrigins K) := by
  obtain ⟨oc, od, kV, doc, pm, an, cdv, ct, osl, rfl, lk, hcd⟩ := F.ex
  refine gfn_of (k := 2) lk hcd sc_origins (fun vs H Q E h => ?_) (fun A outer s H vs Q E pn hr h => ?_)
  · obtain ⟨L, Bd, a, ks, rfl, _⟩ := h
    rfl
  · obtain ⟨L, Bd, a, ks, rfl, hS, hk, hp, hB, q⟩ := h
    refine ⟨_, (gss_cons (gs_ps (ps_expr (pe_callD D_checknumber (hr.mono (by omega)) (by rfl) (pa_cons (pv 0) (pa_cons pe_int pa_nil)))))
 (gss_cons (gs_ps (ps_expr (pe_callD D_checklist (hr.mono (by omega)) (by rfl) (pa_cons (pv 1) pa_nil))))
 (gss_cons (gs_ps (ps_set (i := 2) sc_origins.nd rfl (Or.inl rfl) (pe_lst (pa_cons (pv 0) pa_nil))))
 (gss_cons (gs_ps (ps_for owns_gcx rfl (pi_reversed (by rfl) B.n_reversed (pa_cons (pv 1) pa_nil)) (pg_name (i := 3) sc_origins.nd rfl (Or.inr rfl))
 (pss_one (ps_setLc2 (own := [("after", 4), ("origin", 5)]) (vs1 := [5]) (g := gName 4) (g1 := gName 5) (i := 2) rfl sc_origins.nd rfl rfl (sw_true rfl rfl rfl (by decide +kernel)) (pi_list (pv 2)) (blkOk_by (own := [("after", 4), ("origin", 5)]) (N := ["length", "replacements", "found", "number", "after", "origin"]) (sc := defScope s_origins) (by decide +kernel)) (by decide) (fun _ _ _ _ _ => (pg_name (i := 4) sc_origins.nd rfl (Or.inl rfl))) (fun _ _ _ _ _ => pts_nil) (fun _ _ _ _ _ => (pi_listK (K0 := K) rfl (pe_callD D_originsforone (hr.mono (by omega)) (by rfl) (pa_cons (pv 4) (pa_cons (pv 3) pa_nil))))) (fun _ _ _ _ _ => (pg_name (i := 5) sc_origins.nd rfl (Or.inl rfl))) (fun _ _ _ _ _ => pts_nil) (fun _ _ _ _ _ => (pv 5))))))
 (gss_cons (gs_yieldFrom (yf_lst (pe_callB (id := "sorted") cr_sortedI (by rfl) B.n_sorted (by decide +kernel) (pa_cons (pv 2) pa_nil))) hr.hd)
 gss_nil))))), ?_⟩
    have lim : sizeLine = 16777216 := sizeLine_eq
    have two : ∀ k ∈ ks, 2 ≤ k := fun k h => (hk k h).1
    refine ⟨_, rfl, (L : Int), 0, rfl, by omega, ?_⟩
    refine ⟨_, rfl, a, ks, rfl, hS, two, fun H1 s1 => ?_⟩
    refine ⟨_, rfl, (by show 1 ≤ _; omega), fun p hp => ?_⟩
    have g2 : (upd H1 p (.lst [.int (L : Int)])) p = some (.lst ((nats (orgs L [])).map V.int)) := upd_same
    have s2 := s1.trans (same_new (o := .lst [.int (L : Int)]) hp)
    generalize upd H1 p (.lst [.int (L : Int)]) = H2 at g2 s2 ⊢
    refine ⟨_, rfl, a, ks.map V.int, rfl, s2.seq hS, for_it walk_rev (fun i σ H' => Same H H' ∧ i ≤ ks.length ∧ ∃ r y, σ = [some (.int (L : Int)), some (.ref a), some (.ref r), y, none, none] ∧ H' r = some (.lst ((nats (orgs L (ks.drop (ks.length - i)))).map V.int))) ⟨s2, Nat.zero_le _, p, none, rfl, ?_⟩ (fun i σ H' _ h => h.1.seq hS) ?_ ?_⟩
    · rw [Nat.sub_zero, List.drop_length]
      exact g2
    · rintro i x σ H' H3 hi ⟨s3, hle, r, y, rfl, gr⟩ ⟨rfl, e⟩
      rw [List.length_map] at hi e
      obtain ⟨k, hk', rfl⟩ := map_at e
      have hm := hk k (List.mem_of_getElem? hk')
      have hj : ks.length - 1 - i < ks.length := by omega
      have ed : ks.drop (ks.length - (i + 1)) = k :: ks.drop (ks.length - i) := by
        rw [show ks.length - (i + 1) = ks.length - 1 - i by omega, List.drop_eq_getElem_cons hj]
        rw [List.getElem?_eq_getElem hj] at hk'
        rw [Option.some.inj hk', show ks.length - 1 - i + 1 = ks.length - i by omega]
      have pd := pro_drop two (ks.length - (i + 1))
      have td : ∀ q ∈ ks.drop (ks.length - (i + 1)), 2 ≤ q := fun q hq => two q (List.mem_of_mem_drop hq)
      have ol := orgs_len (L := L) td
      rw [ed] at pd ol ⊢
      obtain ⟨fs, efs⟩ : ∃ fs, fs = orgs L (ks.drop (ks.length - i)) := ⟨_, rfl⟩
      have eo : orgs L (k :: ks.drop (ks.length - i)) = fs.flatMap fun a => oneO a k.toNat := by rw [efs]; rfl
      rw [← efs] at gr
      rw [eo] at ol ⊢
      clear efs eo
      have ll : ((fs.flatMap fun a => oneO a k.toNat).length : Int) ≤ 10000 := by omega
      refine ⟨_, rfl, r, rfl, ⟨_, SqL.of gr⟩, fun D hD => walkI (walk_list (K := K) (a := r) (xs := (nats fs).map V.int)) (fun u H4 => Same H3 (wo H4 D) ∧ H4 D = some (.lst ((nats ((fs.take u).flatMap fun a => oneO a k.toNat)).map V.int))) ⟨by rw [wo_upd]; exact same_wo (Same.refl _) hD, upd_same⟩ (fun u H4 _ h => SqL.of (wo_same _ _ (h.1 _ _ gr))) ?_ ?_⟩
      · rintro u x H4 H5 hu ⟨s4, g4⟩ ⟨rfl, ex⟩
        obtain ⟨av, eav, rfl⟩ := map_at ex
        obtain ⟨an, ean, rfl⟩ : ∃ n, fs[u]? = some n ∧ (n : Int) = av := by
          unfold nats at eav
          rw [List.getElem?_map] at eav
          exact Option.map_eq_some_iff.mp eav
        have s5 : Same H3 (wo H5 D) := s4
        have tk : (fs.take u).flatMap (fun a => oneO a k.toNat) ++ (oneO an k.toNat).take (oneO an k.toNat).length = (fs.take (u + 1)).flatMap fun a => oneO a k.toNat := by
          rw [List.take_add_one, ean, List.flatMap_append, List.take_length]
          show _ = _ ++ List.flatMap _ [an]
          rw [List.flatMap_singleton]
        refine ⟨rfl, ?_⟩
        refine ⟨_, rfl, _, rfl, an, k, rfl, hm.1, hm.2, fun p5 H6 hp5 s6 gp5 => ⟨p5, rfl, ⟨_, SqL.of gp5⟩, walkI (walk_list (K := K) (a := p5) (xs := (nats (oneO an k.toNat)).map V.int)) (fun v H7 => H7 p5 = some (.lst ((nats (oneO an k.toNat)).map V.int)) ∧ Same H3 (wo H7 D) ∧ H7 D = some (.lst ((nats ((fs.take u).flatMap (fun a => oneO a k.toNat) ++ (oneO an k.toNat).take v)).map V.int))) ⟨gp5, fun b o e => ?_, ?_⟩ (fun v H7 _ h => SqL.of h.1) ?_ ?_⟩⟩
        · have nb : b ≠ D := ne_of_none e hD
          have := s5 b o e
          rw [wo_ne nb] at this ⊢
          exact s6 _ _ this
        · rw [List.take_zero, List.append_nil]
          exact s6 _ _ g4
        · rintro v x H7 H8 hv ⟨gp7, s7, g7⟩ ⟨rfl, ex⟩
          obtain ⟨zv, ezv, rfl⟩ := map_at ex
          obtain ⟨zn, ezn, rfl⟩ : ∃ n, (oneO an k.toNat)[v]? = some n ∧ (n : Int) = zv := by
            unfold nats at ezv
            rw [List.getElem?_map] at ezv
            exact Option.map_eq_some_iff.mp ezv
          have hvl := (List.getElem?_eq_some_iff.mp ezn).1
          have fp := flat_pre (f := fun a => oneO a k.toNat) ean hvl
          have nD5 : p5 ≠ D := fun z => by
            rw [z] at hp5
            rw [g4] at hp5
            cases hp5
          refine ⟨rfl, ?_⟩
          refine ⟨_, rfl, _, g7, ?_, ?_, ?_, ?_⟩
          · rw [List.length_map, nats, List.length_map]
            omega
          · rw [upd_ne nD5]
            exact gp7
          · rw [wo_upd]
            exact s7
          · rw [upd_same, List.take_add_one, ezn, ← List.append_assoc, nats_app _ (some zn).toList, List.map_append]
            rfl
        · rintro H7 ⟨gp7, s7, g7⟩
          have le : ((nats (oneO an k.toNat)).map V.int).length = (oneO an k.toNat).length := by rw [List.length_map, nats, List.length_map]
          rw [le, tk] at g7
          exact ⟨s7, g7⟩
      · rintro H4 ⟨s4, g4⟩
        have le : ((nats fs).map V.int).length = fs.length := by rw [List.length_map, nats, List.length_map]
        rw [le, List.take_length] at g4
        exact ⟨s3.trans (s4.trans wo_same), hi, D, _, rfl, g4⟩
    · rintro σ H' ⟨s3, hle, r, y, rfl, gr⟩
      rw [List.length_map, Nat.sub_self, List.drop_zero] at gr
      refine ⟨_, rfl, r, _, rfl, SqL.of gr, fun ns pp pm srt hpp => ⟨pp, _, rfl, upd_same, ?_, ?_⟩⟩
      · have e := pm.length_eq
        rw [nats_len] at e
        have ol := orgs_len (L := L) two
        show 0 + (ns.map V.int).length ≤ _
        rw [List.length_map]
        omega
      · rw [List.nil_append]
        rw [ordO_is two hB pm srt]
        exact q _ (s3.trans (same_new hpp))
end
end Sq
set_option Elab.async false
set_option linter.all false
set_option maxRecDepth 100000
set_option maxHeartbeats 4000000
set_option exponentiation.threshold 2000
namespace Sq
open PySem PySem.Spec PyProof.Rows L2 GenW
def yfE : List Stmt → Expr
  | [_, _, _, _, .Expr (.YieldFrom e _) _] => e
  | _ => .Name "x" ⟨0, 0, 0, 0⟩
def yfP : List Stmt → Pos
  | [_, _, _, _, .Expr (.YieldFrom _ p) _] => p
  | _ => ⟨0, 0, 0, 0⟩
def yfQ : List Stmt → Pos
  | [_, _, _, _, .Expr _ p] => p
  | _ => ⟨0, 0, 0, 0⟩
theorem cg_sortedIK {X : Cx} {K0 : PySem.W.Frag} (hK : X.K = K0) : CallG X (.builtin "sorted") (rSortedI K0) := by
  subst hK
  exact cg_sortedI
section
variable {P : Program} {w : World} {K : PySem.W.Frag} {mg : Str → Option Value} {base : Heap}
def spOriginsV : SpV := fun vs W ns tot val => ∃ (L Bd : Nat) (a : Addr) (ks : List Int), vs = [.int (L : Int), .ref a] ∧ W a = some (.lst (ks.map V.int)) ∧ (∀ b u, W b = some u → b = a) ∧ (∀ k ∈ ks, 2 ≤ k ∧ k ≤ 1000) ∧ pro ks ≤ 10000 ∧ (L : Int) * pro ks < (Bd : Int) ∧
  ns = nats (ordO L ks Bd) ∧ tot = ns.length ∧ val = fun j => ns[j]?.getD 0
theorem ok_originsV {f : Addr} {fd : FuncData} (F : Fun K "origins" "origins" s_origins f fd) (B : Bi mg) (D_checknumber : Dq P w K mg base 1 "check_number" ["number", "least"] spCheckNumber) (D_checklist : Dq P w K mg base 1 "check_list" ["replacements"] (spCheckList K))
    (D_originsforone : Dq P w K mg base 2 "origins_for_one" ["length", "number"] spOne) : GFnV P w K mg base 3 f fd ["length", "replacements"] spOriginsV := by
  obtain ⟨oc, od, kV, doc, pm, an, cdv, ct, osl, rfl, lk, hcd⟩ := F.ex
  refine vfn2_of (k := 2) (pre := (defBody s_origins).take 4) (e := yfE (defBody s_origins)) (yp := yfP (defBody s_origins)) (pos := yfQ (defBody s_origins)) lk hcd sc_origins rfl (fun vs W ns tot val h => ?_) (fun vs W ns tot val h => ?_) (fun vs W ns tot val h => ?_) (fun G ns tot val vs ok eP ew eK eM eB eN eq es hr h => ?_)
  · obtain ⟨L, Bd, a, ks, rfl, _⟩ := h
    rfl
  · obtain ⟨L, Bd, a, ks, _, hW, one, _⟩ := h
    intro b u e
    obtain rfl := one b u e
    rw [hW] at e
    exact .inr ⟨_, (Option.some.inj e).symm⟩
  · obtain ⟨L, Bd, a, ks, _, _, _, _, _, _, _, rfl, rfl⟩ := h
    refine ⟨rfl, fun j k e => ?_⟩
    show ns[j]?.getD 0 = k
    rw [e]
    rfl
  · obtain ⟨L, Bd, a, ks, rfl, hW, one, hk, hp, hB, rfl, rfl, rfl⟩ := h
    obtain ⟨P', w', K', mg', base', N', qual', scope', f', cd', A', outer', n0', a', go', g', W'⟩ := G
    cases eP
    cases ew
    cases eK
    cases eM
    cases eB
    cases eN
    cases eq
    cases es
    refine ⟨_, _, fun s₀ => (gsts_cons (gst_expr (ge_callU D_checknumber (hr.mono (by omega)) (by rfl) (ga_cons (ge_var (i := 0) rfl (by first | exact .inl rfl | exact .inr (.inl rfl) | exact .inr (.inr rfl))) (ga_cons ge_int ga_nil))))
      (gsts_cons (gst_expr (ge_callU D_checklist (hr.mono (by omega)) (by rfl) (ga_cons (ge_var (i := 1) rfl (by first | exact .inl rfl | exact .inr (.inl rfl) | exact .inr (.inr rfl))) ga_nil)))
      (gsts_cons (gst_asg (ge_lst (ga_cons (ge_var (i := 0) rfl (by first | exact .inl rfl | exact .inr (.inl rfl) | exact .inr (.inr rfl))) ga_nil)) (gg_name (i := 2) sc_origins.nd rfl rfl))
      (gsts_one (gst_for owns_lcx rfl (gi_rev (K0 := K') rfl (by rfl) B.n_reversed (ga_cons (ge_var (i := 1) rfl (by first | exact .inl rfl | exact .inr (.inl rfl) | exact .inr (.inr rfl))) ga_nil)) (gg_put (i := 3) sc_origins.nd rfl (Or.inr rfl))
        (gsts_one (gst_setLc2 (own := [("after", 4), ("origin", 5)]) (vs1 := [5]) (g := gName 4) (g1 := gName 5) (i := 2) rfl sc_origins.nd rfl rfl rfl (sw_true rfl rfl rfl (by decide +kernel)) (gi_list (K0 := K') rfl (ge_var (i := 2) rfl (by first | exact .inl rfl | exact .inr (.inl rfl) | exact .inr (.inr rfl)))) (blkOk_by (own := [("after", 4), ("origin", 5)]) (N := ["length", "replacements", "found", "number", "after", "origin"]) (sc := defScope s_origins) (by decide +kernel)) (by decide)
          (fun _ _ _ _ _ => (gg_put (i := 4) sc_origins.nd rfl (Or.inl rfl))) (fun _ _ _ _ _ => gts_nil) (fun _ _ _ _ _ => (gi_list (K0 := K') rfl (ge_callU D_originsforone (hr.mono (by omega)) (by rfl) (ga_cons (ge_var (i := 4) rfl (by first | exact .inl rfl | exact .inr (.inl rfl) | exact .inr (.inr rfl))) (ga_cons (ge_var (i := 3) rfl (by first | exact .inl rfl | exact .inr (.inl rfl) | exact .inr (.inr rfl))) ga_nil))))) (fun _ _ _ _ _ => (gg_put (i := 5) sc_origins.nd rfl (Or.inl rfl))) (fun _ _ _ _ _ => gts_nil) (fun _ _ _ _ _ => (ge_var (i := 5) rfl (by first | exact .inl rfl | exact .inr (.inl rfl) | exact .inr (.inr rfl))))))))))),
      fun s₀ => ge_callB (id := "sorted") (r := rSortedI K') (cg_sortedIK rfl) (by rfl) B.n_sorted (by decide +kernel) (ga_cons (ge_var (i := 2) rfl (by first | exact .inl rfl | exact .inr (.inl rfl) | exact .inr (.inr rfl))) ga_nil), fun H sub => ?_⟩
    have hS : SqL K' H a (ks.map V.int) := SqL.of (sub _ _ hW)
    have lim : sizeLine = 16777216 := sizeLine_eq
    have two : ∀ k ∈ ks, 2 ≤ k := fun k h => (hk k h).1
    refine ⟨_, rfl, (L : Int), 0, rfl, by omega, ?_⟩
    refine ⟨_, rfl, a, ks, rfl, hS, two, fun H1 s1 => ?_⟩
    refine ⟨_, rfl, (by show 1 ≤ _; omega), fun p hp => ?_⟩
    have g2 : (upd H1 p (.lst [.int (L : Int)])) p = some (.lst ((nats (orgs L [])).map V.int)) := upd_same
    have s2 := s1.trans (same_new (o := .lst [.int (L : Int)]) hp)
    generalize upd H1 p (.lst [.int (L : Int)]) = H2 at g2 s2 ⊢
    refine ⟨_, rfl, a, ks.map V.int, rfl, s2.seq hS, for_it walk_rev (fun i σ H' => Same H H' ∧ i ≤ ks.length ∧ ∃ r y, σ = [some (.int (L : Int)), some (.ref a), some (.ref r), y, none, none] ∧ H' r = some (.lst ((nats (orgs L (ks.drop (ks.length - i)))).map V.int))) ⟨s2, Nat.zero_le _, p, none, rfl, ?_⟩ (fun i σ H' _ h => h.1.seq hS) ?_ ?_⟩
    · rw [Nat.sub_zero, List.drop_length]
      exact g2
    · rintro i x σ H' H3 hi ⟨s3, hle, r, y, rfl, gr⟩ ⟨rfl, e⟩
      rw [List.length_map] at hi e
      obtain ⟨k, hk', rfl⟩ := map_at e
      have hm := hk k (List.mem_of_getElem? hk')
      have hj : ks.length - 1 - i < ks.length := by omega
      have ed : ks.drop (ks.length - (i + 1)) = k :: ks.drop (ks.length - i) := by
        rw [show ks.length - (i + 1) = ks.length - 1 - i by omega, List.drop_eq_getElem_cons hj]
        rw [List.getElem?_eq_getElem hj] at hk'
        rw [Option.some.inj hk', show ks.length - 1 - i + 1 = ks.length - i by omega]
      have pd := pro_drop two (ks.length - (i + 1))
      have td : ∀ q ∈ ks.drop (ks.length - (i + 1)), 2 ≤ q := fun q hq => two q (List.mem_of_mem_drop hq)
      have ol := orgs_len (L := L) td
      rw [ed] at pd ol ⊢
      obtain ⟨fs, efs⟩ : ∃ fs, fs = orgs L (ks.drop (ks.length - i)) := ⟨_, rfl⟩
      have eo : orgs L (k :: ks.drop (ks.length - i)) = fs.flatMap fun a => oneO a k.toNat := by rw [efs]; rfl
      rw [← efs] at gr
      rw [eo] at ol ⊢
      clear efs eo
      have ll : ((fs.flatMap fun a => oneO a k.toNat).length : Int) ≤ 10000 := by omega
      refine ⟨_, rfl, r, rfl, ⟨_, SqL.of gr⟩, fun D hD => walkI (walk_list (K := K') (a := r) (xs := (nats fs).map V.int)) (fun u H4 => Same H3 (wo H4 D) ∧ H4 D = some (.lst ((nats ((fs.take u).flatMap fun a => oneO a k.toNat)).map V.int))) ⟨by rw [wo_upd]; exact same_wo (Same.refl _) hD, upd_same⟩ (fun u H4 _ h => SqL.of (wo_same _ _ (h.1 _ _ gr))) ?_ ?_⟩
      · rintro u x H4 H5 hu ⟨s4, g4⟩ ⟨rfl, ex⟩
        obtain ⟨av, eav, rfl⟩ := map_at ex
        obtain ⟨an, ean, rfl⟩ : ∃ n, fs[u]? = some n ∧ (n : Int) = av := by
          unfold nats at eav
          rw [List.getElem?_map] at eav
          exact Option.map_eq_some_iff.mp eav
        have s5 : Same H3 (wo H5 D) := s4
        have tk : (fs.take u).flatMap (fun a => oneO a k.toNat) ++ (oneO an k.toNat).take (oneO an k.toNat).length = (fs.take (u + 1)).flatMap fun a => oneO a k.toNat := by
          rw [List.take_add_one, ean, List.flatMap_append, List.take_length]
          show _ = _ ++ List.flatMap _ [an]
          rw [List.flatMap_singleton]
        refine ⟨rfl, ?_⟩
        refine ⟨_, rfl, _, rfl, an, k, rfl, hm.1, hm.2, fun p5 H6 hp5 s6 gp5 => ⟨p5, rfl, ⟨_, SqL.of gp5⟩, walkI (walk_list (K := K') (a := p5) (xs := (nats (oneO an k.toNat)).map V.int)) (fun v H7 => H7 p5 = some (.lst ((nats (oneO an k.toNat)).map V.int)) ∧ Same H3 (wo H7 D) ∧ H7 D = some (.lst ((nats ((fs.take u).flatMap (fun a => oneO a k.toNat) ++ (oneO an k.toNat).take v)).map V.int))) ⟨gp5, fun b o e => ?_, ?_⟩ (fun v H7 _ h => SqL.of h.1) ?_ ?_⟩⟩
        · have nb : b ≠ D := ne_of_none e hD
          have := s5 b o e
          rw [wo_ne nb] at this ⊢
          exact s6 _ _ this
        · rw [List.take_zero, List.append_nil]
          exact s6 _ _ g4
        · rintro v x H7 H8 hv ⟨gp7, s7, g7⟩ ⟨rfl, ex⟩
          obtain ⟨zv, ezv, rfl⟩ := map_at ex
          obtain ⟨zn, ezn, rfl⟩ : ∃ n, (oneO an k.toNat)[v]? = some n ∧ (n : Int) = zv := by
            unfold nats at ezv
            rw [List.getElem?_map] at ezv
            exact Option.map_eq_some_iff.mp ezv
          have hvl := (List.getElem?_eq_some_iff.mp ezn).1
          have fp := flat_pre (f := fun a => oneO a k.toNat) ean hvl
          have nD5 : p5 ≠ D := fun z => by
            rw [z] at hp5
            rw [g4] at hp5
            cases hp5
          refine ⟨rfl, ?_⟩
          refine ⟨_, rfl, _, g7, ?_, ?_, ?_, ?_⟩
          · rw [List.length_map, nats, List.length_map]
            omega
          · rw [upd_ne nD5]
            exact gp7
          · rw [wo_upd]
            exact s7
          · rw [upd_same, List.take_add_one, ezn, ← List.append_assoc, nats_app _ (some zn).toList, List.map_append]
            rfl
        · rintro H7 ⟨gp7, s7, g7⟩
          have le : ((nats (oneO an k.toNat)).map V.int).length = (oneO an k.toNat).length := by rw [List.length_map, nats, List.length_map]
          rw [le, tk] at g7
          exact ⟨s7, g7⟩
      · rintro H4 ⟨s4, g4⟩
        have le : ((nats fs).map V.int).length = fs.length := by rw [List.length_map, nats, List.length_map]
        rw [le, List.take_length] at g4
        exact ⟨s3.trans (s4.trans wo_same), hi, D, _, rfl, g4⟩
    · rintro σ H' ⟨s3, hle, r, y, rfl, gr⟩
      rw [List.length_map, Nat.sub_self, List.drop_zero] at gr
      refine ⟨_, rfl, r, _, rfl, SqL.of gr, fun ns pp pm srt hpp => ⟨pp, rfl, ?_, s3.free hpp, s3.trans (same_new hpp)⟩⟩
      rw [ordO_is two hB pm srt]
      exact upd_same
end
end Sq
set_option Elab.async false
set_option linter.all false
set_option maxRecDepth 100000
set_option maxHeartbeats 4000000
set_option exponentiation.threshold 2000
namespace Sq
open PySem PySem.Spec PyProof.Rows L2 GenW
section
variable {P : Program} {w : World} {K : PySem.W.Frag} {mg : Str → Option Value} {base : Heap}
def spOriginsL (K : PySem.W.Frag) : SpL := fun vs H M tot It E => ∃ (L Bd : Nat) (a : Addr) (ks : List Int), vs = [.int (L : Int), .ref a] ∧ SqL K H a (ks.map V.int) ∧ (∀ b, M b → ∃ o, H b = some o) ∧ (∀ k ∈ ks, 2 ≤ k ∧ k ≤ 1000) ∧ pro ks ≤ 10000 ∧ (L : Int) * pro ks < (Bd : Int) ∧
  tot = (ordO L ks Bd).length ∧ ∀ i x H', (nats (ordO L ks Bd))[i]? = some x → It i (.int x) H'
theorem ok_originsL {f : Addr} {fd : FuncData} (F : Fun K "origins" "origins" s_origins f fd) (B : Bi mg) (D_checknumber : Df P w K mg base 1 "check_number" ["number", "least"] spCheckNumber) (D_checklist : Df P w K mg base 1 "check_list" ["replacements"] (spCheckList K))
    (D_originsforone : Df P w K mg base 2 "origins_for_one" ["length", "number"] spOne) : GFnL P w K mg base 3 f fd ["length", "replacements"] (spOriginsL K) := by
  obtain ⟨oc, od, kV, doc, pm, an, cdv, ct, osl, rfl, lk, hcd⟩ := F.ex
  refine lfn_at (k := 2) lk hcd sc_origins (fun vs H M tot It E h => ?_) (fun Xc pinsC A n0 a go g E sC HC tot M It J vs ok_ hr h => ?_)
  · obtain ⟨L, Bd, a, ks, rfl, _⟩ := h
    rfl
  · obtain ⟨L, Bd, a, ks, rfl, hS, hM, hk, hp, hB, ht, hIt⟩ := h
    refine ⟨_, (g0_of (gls_cons (gl_ps fun s0_ Hb_ E_ => (ps_expr (pe_callD D_checknumber (hr.mono (by omega)) (by rfl) (pa_cons (pv 0) (pa_cons pe_int pa_nil)))))
 (gls_cons (gl_ps fun s0_ Hb_ E_ => (ps_expr (pe_callD D_checklist (hr.mono (by omega)) (by rfl) (pa_cons (pv 1) pa_nil))))
 (gls_cons (gl_ps fun s0_ Hb_ E_ => (ps_set (i := 2) sc_origins.nd rfl (Or.inl rfl) (pe_lst (pa_cons (pv 0) pa_nil))))
 (gls_cons (gl_ps fun s0_ Hb_ E_ => (ps_for owns_lcx rfl (pi_reversedK (K0 := K) rfl (by rfl) B.n_reversed (pa_cons (pv 1) pa_nil)) (pg_name (i := 3) sc_origins.nd rfl (Or.inr rfl))
 (pss_one (ps_setLc2 (own := [("after", 4), ("origin", 5)]) (vs1 := [5]) (g := gName 4) (g1 := gName 5) (i := 2) rfl sc_origins.nd rfl rfl (sw_true rfl rfl rfl (by decide +kernel)) (pi_listK (K0 := K) rfl (pv 2)) (blkOk_by (own := [("after", 4), ("origin", 5)]) (N := ["length", "replacements", "found", "number", "after", "origin"]) (sc := defScope s_origins) (by decide +kernel)) (by decide) (fun _ _ _ _ _ => (pg_name (i := 4) sc_origins.nd rfl (Or.inl rfl))) (fun _ _ _ _ _ => pts_nil) (fun _ _ _ _ _ => (pi_listK (K0 := K) rfl (pe_callD D_originsforone (hr.mono (by omega)) (by rfl) (pa_cons (pv 4) (pa_cons (pv 3) pa_nil))))) (fun _ _ _ _ _ => (pg_name (i := 5) sc_origins.nd rfl (Or.inl rfl))) (fun _ _ _ _ _ => pts_nil) (fun _ _ _ _ _ => (pv 5))))))
 (gls_cons (gl_yf ok_ (fun s0_ Hb_ E_ => (pe_callB (id := "sorted") (r := rSortedI K) cr_sortedI (by rfl) B.n_sorted (by decide +kernel) (pa_cons (pv 2) pa_nil))) hr.hd)
 gls_nil)))))), ?_⟩
    have lim : sizeLine = 16777216 := sizeLine_eq
    refine ⟨_, rfl, (L : Int), 0, rfl, by omega, ?_⟩
    refine ⟨_, rfl, a, ks, rfl, hS, fun k h => (hk k h).1, fun H1 s1 => ?_⟩
    have two : ∀ k ∈ ks, 2 ≤ k := fun k h => (hk k h).1
    refine ⟨_, rfl, (by show 1 ≤ _; omega), fun p hp2 => ?_⟩
    have g2 : (upd H1 p (.lst [.int (L : Int)])) p = some (.lst ((nats (orgs L [])).map V.int)) := upd_same
    have s2 := s1.trans (same_new (o := .lst [.int (L : Int)]) hp2)
    generalize upd H1 p (.lst [.int (L : Int)]) = H2 at g2 s2 ⊢
    refine ⟨_, rfl, a, ks.map V.int, rfl, s2.seq hS, for_it walk_rev (fun i σ H' => Same HC H' ∧ i ≤ ks.length ∧ ∃ r y, σ = [some (.int (L : Int)), some (.ref a), some (.ref r), y, none, none] ∧ H' r = some (.lst ((nats (orgs L (ks.drop (ks.length - i)))).map V.int))) ⟨s2, Nat.zero_le _, p, none, rfl, ?_⟩ (fun i σ H' _ h => h.1.seq hS) ?_ ?_⟩
    · rw [Nat.sub_zero, List.drop_length]
      exact g2
    · rintro i x σ H' H3 hi ⟨s3, hle, r, y, rfl, gr⟩ ⟨rfl, e⟩
      rw [List.length_map] at hi e
      obtain ⟨k, hk', rfl⟩ := map_at e
      have hm := hk k (List.mem_of_getElem? hk')
      have hj : ks.length - 1 - i < ks.length := by omega
      have ed : ks.drop (ks.length - (i + 1)) = k :: ks.drop (ks.length - i) := by
        rw [show ks.length - (i + 1) = ks.length - 1 - i by omega, List.drop_eq_getElem_cons hj]
        rw [List.getElem?_eq_getElem hj] at hk'
        rw [Option.some.inj hk', show ks.length - 1 - i + 1 = ks.length - i by omega]
      have pd := pro_drop two (ks.length - (i + 1))
      have td : ∀ q ∈ ks.drop (ks.length - (i + 1)), 2 ≤ q := fun q hq => two q (List.mem_of_mem_drop hq)
      have ol := orgs_len (L := L) td
      rw [ed] at pd ol ⊢
      obtain ⟨fs, efs⟩ : ∃ fs, fs = orgs L (ks.drop (ks.length - i)) := ⟨_, rfl⟩
      have eo : orgs L (k :: ks.drop (ks.length - i)) = fs.flatMap fun a => oneO a k.toNat := by rw [efs]; rfl
      rw [← efs] at gr
      rw [eo] at ol ⊢
      clear efs eo
      have ll : ((fs.flatMap fun a => oneO a k.toNat).length : Int) ≤ 10000 := by omega
      refine ⟨_, rfl, r, rfl, ⟨_, SqL.of gr⟩, fun D hD => walkI (walk_list (K := K) (a := r) (xs := (nats fs).map V.int)) (fun u H4 => Same H3 (wo H4 D) ∧ H4 D = some (.lst ((nats ((fs.take u).flatMap fun a => oneO a k.toNat)).map V.int))) ⟨by rw [wo_upd]; exact same_wo (Same.refl _) hD, upd_same⟩ (fun u H4 _ h => SqL.of (wo_same _ _ (h.1 _ _ gr))) ?_ ?_⟩
      · rintro u x H4 H5 hu ⟨s4, g4⟩ ⟨rfl, ex⟩
        obtain ⟨av, eav, rfl⟩ := map_at ex
        obtain ⟨an, ean, rfl⟩ : ∃ n, fs[u]? = some n ∧ (n : Int) = av := by
          unfold nats at eav
          rw [List.getElem?_map] at eav
          exact Option.map_eq_some_iff.mp eav
        have s5 : Same H3 (wo H5 D) := s4
        have tk : (fs.take u).flatMap (fun a => oneO a k.toNat) ++ (oneO an k.toNat).take (oneO an k.toNat).length = (fs.take (u + 1)).flatMap fun a => oneO a k.toNat := by
          rw [List.take_add_one, ean, List.flatMap_append, List.take_length]
          show _ = _ ++ List.flatMap _ [an]
          rw [List.flatMap_singleton]
        refine ⟨rfl, ?_⟩
        refine ⟨_, rfl, _, rfl, an, k, rfl, hm.1, hm.2, fun p5 H6 hp5 s6 gp5 => ⟨p5, rfl, ⟨_, SqL.of gp5⟩, walkI (walk_list (K := K) (a := p5) (xs := (nats (oneO an k.toNat)).map V.int)) (fun v H7 => H7 p5 = some (.lst ((nats (oneO an k.toNat)).map V.int)) ∧ Same H3 (wo H7 D) ∧ H7 D = some (.lst ((nats ((fs.take u).flatMap (fun a => oneO a k.toNat) ++ (oneO an k.toNat).take v)).map V.int))) ⟨gp5, fun b o e => ?_, ?_⟩ (fun v H7 _ h => SqL.of h.1) ?_ ?_⟩⟩
        · have nb : b ≠ D := ne_of_none e hD
          have := s5 b o e
          rw [wo_ne nb] at this ⊢
          exact s6 _ _ this
        · rw [List.take_zero, List.append_nil]
          exact s6 _ _ g4
        · rintro v x H7 H8 hv ⟨gp7, s7, g7⟩ ⟨rfl, ex⟩
          obtain ⟨zv, ezv, rfl⟩ := map_at ex
          obtain ⟨zn, ezn, rfl⟩ : ∃ n, (oneO an k.toNat)[v]? = some n ∧ (n : Int) = zv := by
            unfold nats at ezv
            rw [List.getElem?_map] at ezv
            exact Option.map_eq_some_iff.mp ezv
          have hvl := (List.getElem?_eq_some_iff.mp ezn).1
          have fp := flat_pre (f := fun a => oneO a k.toNat) ean hvl
          have nD5 : p5 ≠ D := fun z => by
            rw [z] at hp5
            rw [g4] at hp5
            cases hp5
          refine ⟨rfl, ?_⟩
          refine ⟨_, rfl, _, g7, ?_, ?_, ?_, ?_⟩
          · rw [List.length_map, nats, List.length_map]
            omega
          · rw [upd_ne nD5]
            exact gp7
          · rw [wo_upd]
            exact s7
          · rw [upd_same, List.take_add_one, ezn, ← List.append_assoc, nats_app _ (some zn).toList, List.map_append]
            rfl
        · rintro H7 ⟨gp7, s7, g7⟩
          have le : ((nats (oneO an k.toNat)).map V.int).length = (oneO an k.toNat).length := by rw [List.length_map, nats, List.length_map]
          rw [le, tk] at g7
          exact ⟨s7, g7⟩
      · rintro H4 ⟨s4, g4⟩
        have le : ((nats fs).map V.int).length = fs.length := by rw [List.length_map, nats, List.length_map]
        rw [le, List.take_length] at g4
        exact ⟨s3.trans (s4.trans wo_same), hi, D, _, rfl, g4⟩
    · rintro σ H' ⟨s3, hle, r, y, rfl, gr⟩
      rw [List.length_map, Nat.sub_self, List.drop_zero] at gr
      refine ⟨_, rfl, r, _, rfl, SqL.of gr, fun ns pp pm srt hpp => ?_⟩
      have en := ordO_is two hB pm srt
      have ll : (ns.map V.int).length = tot := by rw [List.length_map, en, nats_len, ht]
      have away : ∀ {b : Addr}, HC b = none → ¬ M b := fun {b} e m => by
        obtain ⟨o, z⟩ := hM b m
        rw [e] at z
        cases z
      refine ⟨pp, _, rfl, s3.trans (same_new hpp), ?_, fun j H4 => H4 pp = some (.lst (ns.map V.int)), upd_same, fun j H4 _ h => h, fun j H4 x hx h => ⟨?_, fun H5 kp => kp _ _ h (away (s3.free hpp)) ?_⟩, fun Hb' H4 h sm => ⟨?_, sm⟩⟩
      · rw [ll]
        show 0 + tot ≤ tot
        omega
      · obtain ⟨z, ez, rfl⟩ := map_at hx
        rw [en] at ez
        show It (0 + j) _ _
        rw [Nat.zero_add]
        exact hIt j z _ ez
      · obtain ⟨z, _, rfl⟩ := map_at hx
        intro e
        cases e
      · rw [ll]
        show 0 + tot = tot
        omega
end
end Sq
set_option Elab.async false
set_option linter.all false
set_option maxRecDepth 100000
set_option maxHeartbeats 4000000
set_option exponentiation.threshold 2000
namespace Sq
open PySem PySem.Spec PyProof.Rows L2 GenW
section
variable {P : Program} {w : World} {K : PySem.W.Frag} {mg : Str → Option Value} {base : Heap}
/-- what the law asks of a goal and a list -/
structure Ask (K : PySem.W.Frag) (H : Hp) (L Bd : Nat) (a : Addr) (ks : List Int) : Prop where
  at_ : H a = some (.lst (ks.map V.int))
  hk : ∀ k ∈ ks, 2 ≤ k ∧ k ≤ 1000
  hp : pro ks ≤ 10000
  hB : (L : Int) * pro ks < (Bd : Int)
theorem Ask.two {K : PySem.W.Frag} {H : Hp} {L Bd : Nat} {a : Addr} {ks : List Int} (A : Ask K H L Bd a ks) : ∀ k ∈ ks, 2 ≤ k := fun k h => (A.hk k h).1
def spFirst (K : PySem.W.Frag) : Sp := fun vs H Q _ => ∃ (L Bd few : Nat) (a : Addr) (ks : List Int), vs = [.int (L : Int), .ref a, .int (few : Int)] ∧ Ask K H L Bd a ks ∧ 1 ≤ few ∧ few ≤ (ordO L ks Bd).length ∧
  ∀ p H', H p = none → Same H H' → H' p = some (.lst (((nats (ordO L ks Bd)).take few).map V.int)) → Q (.ref p) H'
theorem ok_first {f : Addr} {fd : FuncData} (F : Fun K "_law_first" "_law_first" s_lawfirst f fd) (B : Bi mg) (L_origins : Dl P w K mg base 3 "origins" ["length", "replacements"] (spOriginsL K)) : FnOk P w K mg base CX0 5 f fd ["goal", "row", "few"] (spFirst K) := by
  refine F.ok sc_lawfirst (fun vs H Q E h => ?_) (fun cdv A outer s H vs Q E hr h => ?_)
  · obtain ⟨L, Bd, few, a, ks, rfl, _⟩ := h
    rfl
  · obtain ⟨L, Bd, few, a, ks, rfl, A, f1, f2, q⟩ := h
    refine ⟨_, (pss_cons (ps_set (i := 3) sc_lawfirst.nd rfl (Or.inl rfl) (pe_lst pa_nil))
      (pss_cons (ps_forL0 L_origins (hr.mono (by omega)) (by rfl) (pa_cons (pv 0) (pa_cons (pv 1) pa_nil)) (gg_name (i := 4) sc_lawfirst.nd rfl rfl)
        (gsts_cons (gst_expr (ge_append (ge_var (i := 3) rfl (by first | exact .inl rfl | exact .inr (.inl rfl) | exact .inr (.inr rfl))) (ge_var (i := 4) rfl (by first | exact .inl rfl | exact .inr (.inl rfl) | exact .inr (.inr rfl)))))
        (gsts_one (gst_if (gt_eq (ge_callB (id := "len") (r := rLenK K) cg_len (by rfl) B.n_len (by decide +kernel) (ga_cons (ge_var (i := 3) rfl (by first | exact .inl rfl | exact .inr (.inl rfl) | exact .inr (.inr rfl))) ga_nil)) (ge_var (i := 2) rfl (by first | exact .inl rfl | exact .inr (.inl rfl) | exact .inr (.inr rfl))) (nomark _)) (gsts_one gst_break) gsts_nil))) PassesOwn.never)
      (pss_one (ps_ret (pv 3))))), ?_⟩
    have lim : sizeLine = 16777216 := sizeLine_eq
    have two := A.two
    have ol := orgs_len (L := L) two
    have hlen := ordO_len two A.hB
    have hp := A.hp
    refine ⟨Nat.zero_le _, fun p hp0 => ?_⟩
    obtain ⟨ns, ens⟩ : ∃ ns, ns = nats (ordO L ks Bd) := ⟨_, rfl⟩
    have nl : ns.length = (ordO L ks Bd).length := by rw [ens, nats_len]
    have npa : a ≠ p := ne_of_none A.at_ hp0
    refine ⟨_, rfl, _, rfl, fun b => b = p, (ordO L ks Bd).length, fun i x H' => ∃ z, ns[i]? = some z ∧ x = .int z, fun i c Hb => i < few ∧ Same H Hb ∧ Hb p = some (.lst ((ns.take i).map V.int)) ∧ ∃ y, c = [some (.int (L : Int)), some (.ref a), some (.int (few : Int)), some (.ref p), y],
      ⟨L, Bd, a, ks, rfl, SqL.of (by rw [upd_ne npa]; exact A.at_), fun b e => by rw [e]; exact ⟨_, upd_same⟩, A.hk, A.hp, A.hB, rfl, fun i x H' e => ⟨x, by rw [ens]; exact e, rfl⟩⟩, ⟨by omega, same_new hp0, upd_same, none, rfl⟩, ?_, ?_⟩
    · rintro i c Hb H2 x Ph Hh hi ⟨lt, s1, gp, y, rfl⟩ s2 ⟨z, ez, rfl⟩ hid shown
      have gp2 := s2 _ _ gp
      have np : ¬ Ph p := fun m => by
        have := (hid p m).1
        rw [gp2] at this
        cases this
      have gph : Hh p = some (.lst ((ns.take i).map V.int)) := by rw [shown p np]; exact gp2
      have tk : ns.take (i + 1) = ns.take i ++ [z] := by
        rw [List.take_add_one, ez]
        rfl
      have li : (ns.take i).length = i := by
        rw [List.length_take]
        omega
      have sH : Same H (upd Hh p (.lst ((ns.take (i + 1)).map V.int))) := fun b o e => by
        have nb : b ≠ p := ne_of_none e hp0
        rw [upd_ne nb]
        have e2 := s2 _ _ (s1 b o e)
        have nP : ¬ Ph b := fun m => by
          have := (hid b m).1
          rw [e2] at this
          cases this
        rw [shown b nP]
        exact e2
      have gnew : (upd Hh p (.lst ((ns.take (i + 1)).map V.int))) p = some (.lst ((ns.take (i + 1)).map V.int)) := upd_same
      refine ⟨_, rfl, .inl ⟨rfl, _, SqL.of gph⟩, _, rfl, p, _, _, rfl, rfl, gph, by rw [List.length_map, li]; omega, ?_⟩
      have ea : (ns.take i).map V.int ++ [V.int z] = (ns.take (i + 1)).map V.int := by rw [tk, List.map_append]; rfl
      rw [ea]
      refine ⟨_, rfl, p, _, rfl, .inl (SqL.of gnew), _, rfl, _, _, rfl, rfl, ?_⟩
      have lt1 : ((ns.take (i + 1)).map V.int).length = i + 1 := by
        rw [List.length_map, List.length_take]
        omega
      rw [lt1]
      by_cases c : i + 1 = few
      · rw [decide_eq_true (show ((i + 1 : Nat) : Int) = (few : Int) by omega)]
        refine ⟨_, rfl, ?_⟩
        rw [← c] at q
        exact q p _ hp0 sH (by rw [← ens]; exact gnew)
      · rw [decide_eq_false (show ¬ ((i + 1 : Nat) : Int) = (few : Int) by omega)]
        refine ⟨fun b pb => ?_, fun H'' un same => ⟨fun b o e nm _ => ?_, by omega, fun b o e => ?_, ?_, _, rfl⟩⟩
        · have nb : b ≠ p := fun e => np (e ▸ pb)
          rw [upd_ne nb]
        · have nP : ¬ Ph b := fun m => by
            have := (hid b m).1
            rw [e] at this
            cases this
          rw [same b nP, upd_ne nm, shown b nP]
          exact e
        · have nP : ¬ Ph b := fun m => by
            have := (hid b m).1
            rw [s2 _ _ (s1 b o e)] at this
            cases this
          rw [same b nP]
          exact sH b o e
        · rw [same p np]
          exact gnew
    · rintro c Hb H2 ⟨lt, _⟩ _
      omega
def spPairs (K : PySem.W.Frag) : Sp := fun vs H Q _ => ∃ (L Bd : Nat) (a : Addr) (ks : List Int), vs = [.int (L : Int), .ref a] ∧ Ask K H L Bd a ks ∧
  ∀ p rows H', H p = none → Same H H' → H' p = some (.lst (rows.map V.ref)) → RowsAt H' rows ((nats (ordO L ks Bd)).map fun z => [z, z]) → Q (.ref p) H'
theorem ok_pairs {f : Addr} {fd : FuncData} (F : Fun K "_law_pairs" "_law_pairs" s_lawpairs f fd) (B : Bi mg) (V_origins : DfV P w K mg base 3 "origins" ["length", "replacements"] spOriginsV) : FnOk P w K mg base CX0 5 f fd ["goal", "row"] (spPairs K) := by
  refine F.ok sc_lawpairs (fun vs H Q E h => ?_) (fun cdv A outer s H vs Q E hr h => ?_)
  · obtain ⟨L, Bd, a, ks, rfl, _⟩ := h
    rfl
  · obtain ⟨L, Bd, a, ks, rfl, A, q⟩ := h
    refine ⟨_, (pss_one (ps_ret (pe_zipF (own := [("one", 2), ("other", 3)]) V_origins (hr.mono (by omega)) (by rfl) (na_cons (i := 0) rfl (Or.inl rfl) (na_cons (i := 1) rfl (Or.inl rfl) na_nil)) (na_cons (i := 0) rfl (Or.inl rfl) (na_cons (i := 1) rfl (Or.inl rfl) na_nil))
      (by rfl) B.n_zip rfl (Nat.lt_of_le_of_lt (Nat.le_trans (Nat.le_add_right _ _) (Nat.le_add_right _ _)) hr.dp) sc_lawpairs.nd (blkOk_by (own := [("one", 2), ("other", 3)]) (N := ["goal", "row", "one", "other"]) (sc := defScope s_lawpairs) (by decide +kernel)) rfl rfl (by decide)))), ?_⟩
    have two := A.two
    have ol := orgs_len (L := L) two
    have hlen := ordO_len two A.hB
    have hp := A.hp
    obtain ⟨ns, ens⟩ : ∃ ns, ns = nats (ordO L ks Bd) := ⟨_, rfl⟩
    have nl : ns.length = (ordO L ks Bd).length := by rw [ens, nats_len]
    obtain ⟨W, eW⟩ : ∃ W : Hp, W = fun b => if b = a then some (.lst (ks.map V.int)) else none := ⟨_, rfl⟩
    have Wa : W a = some (.lst (ks.map V.int)) := by rw [eW]; exact if_pos rfl
    have W1 : ∀ b u, W b = some u → b = a := fun b u e => by
      rw [eW] at e
      by_cases c : b = a
      · exact c
      · dsimp only at e
        rw [if_neg c] at e
        cases e
    have kind : KindW W := fun b u e => by
      obtain rfl := W1 b u e
      rw [Wa] at e
      exact .inr ⟨_, (Option.some.inj e).symm⟩
    have sub : SubW W H := fun b u e => by
      obtain rfl := W1 b u e
      rw [Wa] at e
      rw [← e]
      exact A.at_
    have ask : spOriginsV [.int (L : Int), .ref a] W ns ns.length (fun j => ns[j]?.getD 0) := ⟨L, Bd, a, ks, rfl, Wa, W1, A.hk, A.hp, A.hB, ens, rfl, rfl⟩
    refine ⟨_, rfl, _, rfl, W, ns, ns.length, _, ask, kind, sub, ?_⟩
    refine ⟨_, rfl, _, rfl, W, ns, ns.length, _, ask, kind, sub, rfl, by omega, fun D rows H3 nD gD gR keep => q D rows H3 nD keep gD ?_⟩
    have e : prs (fun j => ns[j]?.getD 0) (fun j => ns[j]?.getD 0) ns.length = ns.map fun z => [z, z] := by
      unfold prs
      refine List.ext_getElem? fun i => ?_
      rw [List.getElem?_map, List.getElem?_map]
      by_cases lt : i < ns.length
      · rw [List.getElem?_range lt, List.getElem?_eq_getElem lt]
        show some [(ns[i]?.getD 0), (ns[i]?.getD 0)] = some [ns[i], ns[i]]
        rw [List.getElem?_eq_getElem lt]
        rfl
      · rw [List.getElem?_eq_none (by rw [List.length_range]; omega), List.getElem?_eq_none (by omega)]
        rfl
    rw [← ens, ← e]
    exact gR
end
end Sq
set_option Elab.async false
set_option linter.all false
set_option maxRecDepth 100000
set_option maxHeartbeats 4000000
set_option exponentiation.threshold 2000
namespace Sq
open PySem PySem.Spec PyProof.Rows L2 GenW
theorem at2y {a b z : Int} (h0 : 0 ≤ z) (h : z < 2) : ∃ k, atI [V.int a, V.int b] z = some (.int k) ∧ (k = a ∨ k = b) := by
  have : z = 0 ∨ z = 1 := by omega
  rcases this with rfl | rfl
  · exact ⟨a, rfl, .inl rfl⟩
  · exact ⟨b, rfl, .inr rfl⟩
section
variable {P : Program} {w : World} {K : PySem.W.Frag} {mg : Str → Option Value} {base : Heap}
def spShort : Sp := fun vs H Q _ => ∃ (l d : Addr) (mix cnt g : Int), vs = [.ref l, .int g] ∧ Src H l d mix cnt ∧ cnt < 400000 ∧ 0 ≤ g ∧ g ≤ 100 ∧
  ∀ p ks cnt' H', H p = none → Src H' l d mix cnt' → cnt' ≤ cnt + 20 → Keep H H' l d → H' p = some (.lst (List.map V.int ks)) → (ks.length : Int) ≤ 8 → (∀ k ∈ ks, 2 ≤ k ∧ k ≤ 30) → (if 1 < g then g else 1) * pro ks ≤ 4000 → Q (.ref p) H'
theorem ok_short {f : Addr} {fd : FuncData} (F : Fun K "_law_short" "_law_short" s_lawshort f fd) (B : Bi mg) (D_lawdraw : Df P w K mg base 1 "_law_draw" ["source", "many"] spDraw) (D_lawrow : Df P w K mg base 2 "_law_row" ["source", "many", "wide"] spRow) : FnOk P w K mg base CX0 3 f fd ["source", "goal"] spShort := by
  refine F.ok sc_lawshort (fun vs H Q E h => ?_) (fun cdv A outer s H vs Q E hr h => ?_)
  · obtain ⟨l, d, mix, cnt, g, rfl, _⟩ := h
    rfl
  · obtain ⟨l, d, mix, cnt, g, rfl, S, hc, g0, g1, q⟩ := h
    refine ⟨_, (pss_cons (ps_par (i := 2) (j := 3) (by rfl) sc_lawshort.nd rfl rfl (by decide) rfl rfl (pa_cons (pe_lst pa_nil) (pa_cons (pe_callB (id := "max") (call_max2 rfl) (by rfl) B.n_max (by decide +kernel) (pa_cons pe_int (pa_cons (pv 1) pa_nil))) pa_nil)) (by rfl))
 (pss_cons (ps_for PassesOwn.never rfl (pi_list (pe_callD D_lawrow (hr.mono (by omega)) (by rfl) (pa_cons (pv 0) (pa_cons pe_int (pa_cons (pe_ix (r := rIxL K) ix_list (pe_lst (pa_cons pe_int (pa_cons pe_int pa_nil))) (pe_callD D_lawdraw (hr.mono (by omega)) (by rfl) (pa_cons (pv 0) (pa_cons pe_int pa_nil))) (fun _ _ => rfl)) pa_nil))))) (pg_name (i := 4) sc_lawshort.nd rfl (Or.inl rfl))
 (pss_one (ps_if (pt_cmpR op_le (pe_op op_mul (pv 3) (pv 4)) pe_int (nomark _))
 (pss_cons (ps_expr (pe_bm PySem.F.plainAttrs_list PySem.F.slot_list_append PySem.F.type_list_append mt_append (pv 2) (pa_cons (pv 4) pa_nil)))
 (pss_one (ps_set (i := 3) sc_lawshort.nd rfl (Or.inl rfl) (pe_op op_mul (pv 3) (pv 4)))))
 pss_nil)))
 (pss_one (ps_ret (pv 2))))), ?_⟩
    have lim : sizeLine = 16777216 := sizeLine_eq
    have w2 : 2 ≤ sizeLine := by omega
    refine ⟨Nat.zero_le _, fun p hp => ⟨_, rfl, 1, g, rfl, _, _, rfl, ?_⟩⟩
    obtain ⟨m, em⟩ : ∃ m : Int, m = (if g > 1 then g else 1) := ⟨_, rfl⟩
    have hm : 1 ≤ m ∧ m ≤ 100 := by
      rw [em]
      split <;> omega
    rw [← em]
    have em' : (if 1 < g then g else 1) = m := em.symm
    rw [em'] at q
    have npl := S.nel hp
    have npd := S.ned hp
    have S1 := S.same (same_new (o := .lst []) hp)
    refine ⟨_, rfl, w2, fun t ht => ?_⟩
    have S2 := S1.same (same_new (o := .lst [.int 4, .int 30]) ht)
    refine ⟨_, rfl, l, d, mix, cnt, 2, rfl, S2, by omega, by decide, by decide, fun z1 c1 H4 z10 z11 S4 hc4 k4 => ?_⟩
    obtain ⟨wide, wa, wb⟩ := at2y (a := 4) (b := 30) z10 z11
    refine ⟨t, _, z1, .int wide, rfl, rfl, SqL.of (k4 _ _ upd_same (S1.nel ht) (S1.ned ht)), wa, ?_⟩
    refine ⟨l, d, mix, c1, 8, wide, rfl, S4, by omega, by decide, by decide, by omega, by omega, fun p2 ks c2 H5 np S5 hc5 k5 gp lk hk => ?_⟩
    have pH5 : H5 p = some (.lst []) := k5 _ _ (k4 _ _ (same_new ht _ _ upd_same) npl npd) npl npd
    have kp5 : Keep H H5 l d := (((Keep.of (same_new hp)).trans (Keep.of (same_new ht))).trans k4).trans k5
    have n2 : p2 ≠ p := fun z => by
      rw [z, k4 _ _ (same_new ht _ _ upd_same) npl npd] at np
      cases np
    refine ⟨p2, rfl, ⟨_, SqL.of gp⟩, for_list (K := K) (a := p2) (xs := ks.map V.int) (fun i σ H' => ∃ js y4, σ = [some (.ref l), some (.int g), some (.ref p), some (.int (m * pro js)), y4] ∧ Src H' l d mix c2 ∧ Keep H H' l d ∧ H' p2 = some (.lst (List.map V.int ks)) ∧ H' p = some (.lst (js.map V.int)) ∧ js.length ≤ i ∧ (∀ k ∈ js, 2 ≤ k ∧ k ≤ 30) ∧ m * pro js ≤ 4000)
      ⟨[], none, (by rw [show pro [] = 1 from rfl, Int.mul_one]; rfl), S5, kp5, gp, pH5, Nat.le_refl _, fun k h => absurd h List.not_mem_nil, (by rw [show pro [] = 1 from rfl]; omega)⟩ (fun i σ H' _ h => by obtain ⟨_, _, _, _, _, h, _⟩ := h; exact SqL.of h) ?_ ?_⟩
    · rintro i v σ H' hi ⟨js, y4, rfl, S6, k6, g2, g1', lj, hj, top⟩
      have hil : i < ks.length := by
        have := (List.getElem?_eq_some_iff.mp hi).1
        rwa [List.length_map] at this
      obtain ⟨x, ex, rfl⟩ := map_at hi
      have hx := hk x (List.mem_of_getElem? ex)
      have pj := pro_pos (ks := js) fun k h => (hj k h).1
      have pos : 0 ≤ m * pro js := Int.mul_nonneg (by omega) (by omega)
      refine ⟨_, rfl, _, rfl, m * pro js, x, rfl, rfl, .inr ⟨by omega, by omega⟩, _, 4000, rfl, rfl, _, rfl, ite2 (fun c => ?_) (fun c => ⟨js, _, rfl, S6, k6, g2, g1', by omega, hj, top⟩)⟩
      have c' : m * pro js * x ≤ 4000 := of_decide_eq_true c
      refine ⟨_, rfl, .inl ⟨rfl, _, SqL.of g1'⟩, _, rfl, p, _, _, rfl, rfl, g1', by rw [List.length_map]; omega, ?_⟩
      refine ⟨_, rfl, _, rfl, m * pro js, x, rfl, rfl, .inr ⟨by omega, by omega⟩, js ++ [x], some (.int x), ?_, ?_, ?_, ?_, ?_, ?_, ?_, ?_⟩
      · rw [pro_app, ← Int.mul_assoc, show pro [x] = 1 * x from rfl, Int.one_mul]
        rfl
      · obtain ⟨cur, ds, h1, h2⟩ := S6.ob
        exact ⟨⟨cur, ds, by rw [upd_ne npl.symm]; exact h1, by rw [upd_ne npd.symm]; exact h2⟩, S6.m0, S6.m1, S6.c0, S6.ne⟩
      · intro b o e n1 n2'
        have nb : b ≠ p := fun z => by rw [z, hp] at e; cases e
        rw [upd_ne nb]
        exact k6 b o e n1 n2'
      · rw [upd_ne n2]
        exact g2
      · rw [upd_same, List.map_append]
        rfl
      · rw [List.length_append]
        show js.length + 1 ≤ i + 1
        omega
      · intro k h
        rcases List.mem_append.mp h with h | h
        · exact hj k h
        · rw [List.mem_singleton.mp h]
          omega
      · rw [pro_app, ← Int.mul_assoc, show pro [x] = 1 * x from rfl, Int.one_mul]
        exact c'
    · rintro σ H' ⟨js, y4, rfl, S6, k6, g2, g1', lj, hj, top⟩
      rw [List.length_map] at lj
      exact ⟨_, rfl, q p js c2 H' hp S6 (by omega) k6 g1' (by omega) hj top⟩
end
end Sq
set_option Elab.async false
set_option linter.all false
set_option maxRecDepth 100000
set_option maxHeartbeats 4000000
set_option exponentiation.threshold 2000
namespace Sq
open PySem PySem.Spec PyProof.Rows L2 GenW
section
variable {P : Program} {w : World} {K : PySem.W.Frag} {mg : Str → Option Value} {base : Heap}
def spBack (K : PySem.W.Frag) : Sp := fun vs H Q _ => ∃ (L Bd : Nat) (a : Addr) (ks : List Int), vs = [.int (L : Int), .ref a] ∧ Ask K H L Bd a ks ∧ ∀ p H', H p = none → Same H H' → H' p = some (.lst ((nats (ordO L ks Bd)).map V.int)) → Q (.ref p) H'
theorem ok_back {f : Addr} {fd : FuncData} (F : Fun K "_law_backwards" "_law_backwards" s_lawbackwards f fd) (B : Bi mg) : FnOk P w K mg base CX0 1 f fd ["goal", "row"] (spBack K) := by
  refine F.ok sc_lawbackwards (fun vs H Q E h => ?_) (fun cdv A outer s H vs Q E hr h => ?_)
  · obtain ⟨L, Bd, a, ks, rfl, _⟩ := h
    rfl
  · obtain ⟨L, Bd, a, ks, rfl, A, q⟩ := h
    refine ⟨_, (pss_cons (ps_set (i := 2) sc_lawbackwards.nd rfl (Or.inl rfl) (pe_lst (pa_cons (pv 0) pa_nil)))
 (pss_cons (ps_for PassesOwn.never rfl (pi_list (pe_revL (pv 1))) (pg_name (i := 3) sc_lawbackwards.nd rfl (Or.inr rfl))
 (pss_cons (ps_set (i := 4) sc_lawbackwards.nd rfl (Or.inl rfl) (pe_lst pa_nil))
 (pss_cons (ps_for PassesOwn.never rfl (pi_list (pv 2)) (pg_name (i := 5) sc_lawbackwards.nd rfl (Or.inr rfl))
 (pss_one (ps_expr (pe_bm PySem.F.plainAttrs_list PySem.F.slot_list_extend PySem.F.type_list_extend mt_extend (pv 4) (pa_cons (pe_lc (own := [("rest", 6)]) (g := gName 6) rfl sc_lawbackwards.nd (pi_range1 (by rfl) B.n_range (pa_cons (pe_op op_add (pe_callB (id := "min") (call_min2 rfl) (by rfl) B.n_min (by decide +kernel) (pa_cons (pe_op op_sub (pv 3) pe_int) (pa_cons (pv 5) pa_nil))) pe_int) pa_nil)) (blkOk_by (own := [("rest", 6)]) (N := ["goal", "row", "found", "one", "longer", "run", "rest"]) (sc := defScope s_lawbackwards) (by decide +kernel)) (fun _ _ _ _ _ => (pg_name (i := 6) sc_lawbackwards.nd rfl (Or.inl rfl))) (fun _ _ _ _ _ => pts_nil) (fun _ _ _ _ _ => (pe_op op_sub (pe_op op_mul (pv 5) (pv 3)) (pe_op op_mul (pv 6) (pe_op op_sub (pv 3) pe_int))))) pa_nil)))))
 (pss_one (ps_set (i := 2) sc_lawbackwards.nd rfl (Or.inl rfl) (pv 4))))))
 (pss_one (ps_ret (pe_callB (id := "sorted") cr_sortedI (by rfl) B.n_sorted (by decide +kernel) (pa_cons (pv 2) pa_nil)))))), ?_⟩
    have lim : sizeLine = 16777216 := sizeLine_eq
    have two := A.two
    have hp := A.hp
    refine ⟨_, rfl, (by show 1 ≤ _; omega), fun p0 hp0 => ?_⟩
    have g0 : (upd H p0 (.lst [.int (L : Int)])) p0 = some (.lst ((nats (orgs L [])).map V.int)) := upd_same
    have s0 := same_new (o := .lst [.int (L : Int)]) hp0
    generalize upd H p0 (.lst [.int (L : Int)]) = H0 at g0 s0 ⊢
    refine ⟨_, rfl, a, ks.map V.int, rfl, SqL.of (s0 _ _ A.at_), fun r hr0 => ?_⟩
    have gr : (upd H0 r (.lst (ks.map V.int).reverse)) r = some (.lst (ks.map V.int).reverse) := upd_same
    have s1 := s0.trans (same_new (o := .lst (ks.map V.int).reverse) hr0)
    have g1 := same_new (o := .lst (ks.map V.int).reverse) hr0 _ _ g0
    generalize upd H0 r (.lst (ks.map V.int).reverse) = H1 at gr s1 g1 ⊢
    refine ⟨r, rfl, ⟨_, SqL.of gr⟩, for_list (K := K) (a := r) (xs := (ks.map V.int).reverse) (fun i σ H' => Same H1 H' ∧ i ≤ ks.length ∧ ∃ q y3 y4 y5, σ = [some (.int (L : Int)), some (.ref a), some (.ref q), y3, y4, y5, none] ∧ H' q = some (.lst ((nats (orgs L (ks.drop (ks.length - i)))).map V.int)))
      ⟨Same.refl _, Nat.zero_le _, p0, none, none, none, rfl, by rw [Nat.sub_zero, List.drop_length]; exact g1⟩ (fun i σ H' _ h => SqL.of (h.1 _ _ gr)) ?_ ?_⟩
    · rintro i v σ H2 hi ⟨s2, hle, q0, y3, y4, y5, rfl, gq⟩
      have hil : i < ks.length := by
        have := (List.getElem?_eq_some_iff.mp hi).1
        rwa [List.length_reverse, List.length_map] at this
      have hj : ks.length - 1 - i < ks.length := by omega
      have ev : v = .int ks[ks.length - 1 - i] := by
        rw [List.getElem?_reverse (by rw [List.length_map]; exact hil), List.length_map, List.getElem?_map, List.getElem?_eq_getElem hj] at hi
        exact (Option.some.inj hi).symm
      obtain ⟨k, ek⟩ : ∃ k, k = ks[ks.length - 1 - i] := ⟨_, rfl⟩
      rw [← ek] at ev
      subst ev
      have hm := A.hk k (by rw [ek]; exact List.getElem_mem hj)
      have ed : ks.drop (ks.length - (i + 1)) = k :: ks.drop (ks.length - i) := by
        rw [show ks.length - (i + 1) = ks.length - 1 - i by omega, List.drop_eq_getElem_cons hj, ← ek, show ks.length - 1 - i + 1 = ks.length - i by omega]
      have pd := pro_drop two (ks.length - (i + 1))
      have td : ∀ q ∈ ks.drop (ks.length - (i + 1)), 2 ≤ q := fun q hq => two q (List.mem_of_mem_drop hq)
      have ol := orgs_len (L := L) td
      rw [ed] at pd ol ⊢
      obtain ⟨fs, efs⟩ : ∃ fs, fs = orgs L (ks.drop (ks.length - i)) := ⟨_, rfl⟩
      have eo : orgs L (k :: ks.drop (ks.length - i)) = fs.flatMap fun a => oneO a k.toNat := by rw [efs]; rfl
      rw [← efs] at gq
      rw [eo] at ol ⊢
      clear efs eo ek
      have ll : ((fs.flatMap fun a => oneO a k.toNat).length : Int) ≤ 10000 := by omega
      refine ⟨Nat.zero_le _, fun D hD => ?_⟩
      have nq : q0 ≠ D := ne_of_none gq hD
      refine ⟨_, rfl, q0, rfl, ⟨_, SqL.of (same_new hD _ _ gq)⟩, for_list (K := K) (a := q0) (xs := (nats fs).map V.int) (fun u σ H4 => Same H2 (wo H4 D) ∧ H4 D = some (.lst ((nats ((fs.take u).flatMap fun a => oneO a k.toNat)).map V.int)) ∧ ∃ y5, σ = [some (.int (L : Int)), some (.ref a), some (.ref q0), some (.int k), some (.ref D), y5, none])
        ⟨by rw [wo_upd]; exact same_wo (Same.refl _) hD, upd_same, y5, rfl⟩ (fun u σ H4 _ h => SqL.of (wo_same _ _ (h.1 _ _ gq))) ?_ ?_⟩
      · rintro u v σ H4 hu ⟨s4, g4, y5', rfl⟩
        obtain ⟨av, eav, rfl⟩ := map_at hu
        obtain ⟨an, ean, rfl⟩ : ∃ n, fs[u]? = some n ∧ (n : Int) = av := by
          unfold nats at eav
          rw [List.getElem?_map] at eav
          exact Option.map_eq_some_iff.mp eav
        have tk : (fs.take u).flatMap (fun a => oneO a k.toNat) ++ oneO an k.toNat = (fs.take (u + 1)).flatMap fun a => oneO a k.toNat := by
          rw [List.take_add_one, ean, List.flatMap_append]
          show _ = _ ++ List.flatMap _ [an]
          rw [List.flatMap_singleton]
        have pre : ((fs.take (u + 1)).flatMap fun a => oneO a k.toNat).length ≤ (fs.flatMap fun a => oneO a k.toNat).length := by
          conv => rhs; rw [← List.take_append_drop (u + 1) fs]
          rw [List.flatMap_append, List.length_append]
          omega
        rw [← tk, List.length_append] at pre
        obtain ⟨mn, emn⟩ : ∃ mn : Int, mn = (if (an : Int) < k - 1 then (an : Int) else k - 1) := ⟨_, rfl⟩
        have hmn : 0 ≤ mn ∧ mn ≤ 1000 ∧ mn ≤ (an : Int) ∧ (mn + 1).toNat = min k.toNat (an + 1) := by
          rw [emn]
          split <;> omega
        refine ⟨_, rfl, .inl ⟨rfl, _, SqL.of g4⟩, _, rfl, k, 1, rfl, rfl, _, rfl, k - 1, (an : Int), rfl, ?_⟩
        rw [← emn]
        refine ⟨mn, 1, rfl, rfl, mn + 1, rfl, by omega, by omega, fun C hC => lc_range (lo := 0) (n := (mn + 1).toNat) (fun j H' => Same H4 H' ∧ H' C = some (.lst ((nats ((List.range j).map fun l : Nat => (an - l) * k.toNat + l)).map V.int))) ⟨same_new hC, upd_same⟩ ?_ ?_⟩
        · rintro j H' hj2 ⟨s5, g5⟩
          refine ⟨rfl, ?_⟩
          refine ⟨_, rfl, _, rfl, (an : Int), k, rfl, rfl, .inr ⟨by omega, by omega⟩, _, rfl, _, rfl, k, 1, rfl, rfl, (0 + (j : Int)), k - 1, rfl, rfl, .inr ⟨by omega, by omega⟩, _, _, rfl, rfl, _, g5, ?_, ?_, ?_⟩
          · rw [List.length_map, nats_len, List.length_map, List.length_range]
            omega
          · intro b o e
            have nb : b ≠ C := ne_of_none e hC
            rw [upd_ne nb]
            exact s5 b o e
          · rw [upd_same, List.range_succ, List.map_append, nats_app, List.map_append]
            have e : (an : Int) * k - (0 + (j : Int)) * (k - 1) = (((an - j) * k.toNat + j : Nat) : Int) := by
              rw [Int.natCast_add, Int.natCast_mul, Int.toNat_of_nonneg (by omega), Int.ofNat_sub (by omega), Int.zero_add, Int.sub_mul, Int.mul_sub, Int.mul_one]
              omega
            show some (HO.lst (_ ++ [V.int ((an : Int) * k - (0 + (j : Int)) * (k - 1))])) = _
            rw [e]
            rfl
        · rintro H' ⟨s5, g5⟩
          have nCD : D ≠ C := ne_of_none g4 hC
          have lenO : ((nats (oneO an k.toNat)).map V.int).length = (oneO an k.toNat).length := by rw [List.length_map, nats_len]
          have g5' : H' C = some (.lst ((nats (oneO an k.toNat)).map V.int)) := by
            rw [g5, hmn.2.2.2]
            rfl
          refine ⟨D, C, _, _, rfl, rfl, s5 _ _ g4, g5', ?_, ?_, ?_, _, rfl⟩
          · rw [lenO, List.length_map, nats_len]
            omega
          · intro b o e
            have nb : b ≠ D := ne_of_none e hD
            have := s4 b o e
            rw [wo_ne nb] at this ⊢
            rw [upd_ne nb]
            exact s5 _ _ this
          · rw [upd_same, ← List.map_append, ← nats_app, tk]
      · rintro σ H4 ⟨s4, g4, y5', rfl⟩
        have le : ((nats fs).map V.int).length = fs.length := by rw [List.length_map, nats_len]
        rw [le, List.take_length] at g4
        exact ⟨_, rfl, s2.trans (s4.trans wo_same), hil, D, _, _, _, rfl, g4⟩
    · rintro σ H2 ⟨s2, hle, q0, y3, y4, y5, rfl, gq⟩
      rw [List.length_reverse, List.length_map, Nat.sub_self, List.drop_zero] at gq
      refine ⟨_, rfl, q0, _, rfl, SqL.of gq, fun ns pp pm srt hpp => ?_⟩
      have sA := s1.trans (s2.trans (same_new (o := .lst (ns.map V.int)) hpp))
      exact q pp _ ((s1.trans s2).free hpp) sA (by rw [upd_same, ordO_is two A.hB pm srt])
end
end Sq
set_option Elab.async false
set_option linter.all false
set_option maxRecDepth 100000
set_option maxHeartbeats 4000000
set_option exponentiation.threshold 2000
namespace Sq
open PySem PySem.Spec PyProof.Rows L2 GenW
section
variable {P : Program} {w : World} {K : PySem.W.Frag} {mg : Str → Option Value} {base : Heap}
theorem ldAll_ints : ∀ xs : List Int, ldAll (xs.map PyData.int) = true
  | [] => rfl
  | x :: xs => by
    show (true && ldAll (xs.map PyData.int)) = true
    rw [ldAll_ints xs]
    rfl
theorem ld_list {xs : List Int} (h : xs.length ≤ 100000) : ld (.list (xs.map PyData.int)) = true := by
  show (decide ((xs.map PyData.int).length ≤ 100000) && ldAll (xs.map PyData.int)) = true
  rw [ldAll_ints, List.length_map, decide_eq_true h]
  rfl
def spWide : Sp := fun vs H Q _ => ∃ (l d : Addr) (mix cnt : Int), vs = [.ref l] ∧ Src H l d mix cnt ∧ cnt < 400000 ∧
  ∀ cnt' H', Src H' l d mix cnt' → cnt' ≤ cnt + 40 → Keep H H' l d → Q (.bl true) H'
theorem ok_wide {f : Addr} {fd : FuncData} (F : Fun K "_law_wide_right" "_law_wide_right" s_lawwideright f fd) (B : Bi mg) (D_lawdraw : Df P w K mg base 1 "_law_draw" ["source", "many"] spDraw) (D_lawrow : Df P w K mg base 2 "_law_row" ["source", "many", "wide"] spRow)
    (D_lawbackwards : Df P w K mg base 1 "_law_backwards" ["goal", "row"] (spBack K)) (D_lawsqueezed : Df P w K mg base 2 "_law_squeezed" ["run", "row"] (spSqz K)) (G_origins : Dg P w K mg base 3 "origins" ["length", "replacements"] (spOrigins K))
    (D_greatestorigin : Df P w K mg base 2 "greatest_origin" ["length", "replacements"] (spGreatC K)) (D_lawsame : Df P w K mg base 5 "_law_same" ["found", "wanted"] (spSame K 4)) : FnOk P w K mg base CX0 8 f fd ["source"] spWide := by
  refine F.ok sc_lawwideright (fun vs H Q E h => ?_) (fun cdv A outer s H vs Q E hr h => ?_)
  · obtain ⟨l, d, mix, cnt, rfl, _⟩ := h
    rfl
  · obtain ⟨l, d, mix, cnt, rfl, S, hc, q⟩ := h
    refine ⟨_, (pss_cons (ps_asg (pe_tup (pa_cons (pe_callD D_lawdraw (hr.mono (by omega)) (by rfl) (pa_cons (pv 0) (pa_cons pe_int pa_nil))) (pa_cons (pe_lst pa_nil) (pa_cons pe_int pa_nil)))) (pg_tup rfl (pgs_cons (pg_name (i := 1) sc_lawwideright.nd rfl (Or.inr rfl)) (pgs_cons (pg_name (i := 2) sc_lawwideright.nd rfl (Or.inr rfl)) (pgs_cons (pg_name (i := 3) sc_lawwideright.nd rfl (Or.inl rfl)) pgs_nil)))))
 (pss_cons (ps_for PassesOwn.never rfl (pi_list (pe_callD D_lawrow (hr.mono (by omega)) (by rfl) (pa_cons (pv 0) (pa_cons pe_int (pa_cons (pe_ix (r := rIxL K) ix_list (pe_lst (pa_cons pe_int (pa_cons pe_int (pa_cons pe_int pa_nil)))) (pe_callD D_lawdraw (hr.mono (by omega)) (by rfl) (pa_cons (pv 0) (pa_cons pe_int pa_nil))) (fun _ _ => rfl)) pa_nil))))) (pg_name (i := 4) sc_lawwideright.nd rfl (Or.inl rfl))
 (pss_one (ps_if (pt_cmpR op_le (pe_op op_mul (pv 3) (pv 4)) pe_int (nomark _))
 (pss_cons (ps_expr (pe_bm PySem.F.plainAttrs_list PySem.F.slot_list_append PySem.F.type_list_append mt_append (pv 2) (pa_cons (pv 4) pa_nil)))
 (pss_one (ps_set (i := 3) sc_lawwideright.nd rfl (Or.inl rfl) (pe_op op_mul (pv 3) (pv 4)))))
 pss_nil)))
 (pss_cons (ps_set (i := 5) sc_lawwideright.nd rfl (Or.inl rfl) (pe_callD D_lawbackwards (hr.mono (by omega)) (by rfl) (pa_cons (pv 1) (pa_cons (pv 2) pa_nil))))
 (pss_cons (ps_if (pt_cmpR (op_neD hr.units) (pe_lc (own := [("run", 6)]) (g := gName 6) rfl sc_lawwideright.nd (pi_list (pv 5)) (blkOk_by (own := [("run", 6)]) (N := ["source", "goal", "row", "product_here", "one", "due", "run"]) (sc := defScope s_lawwideright) (by decide +kernel)) (fun _ _ _ _ _ => (pg_name (i := 6) sc_lawwideright.nd rfl (Or.inl rfl))) (fun _ _ _ _ _ => pts_one (pt_cmpR op_ne (pe_callD D_lawsqueezed (hr.mono (by omega)) (by rfl) (pa_cons (pv 6) (pa_cons (pv 2) pa_nil))) (pv 1) (nomark _))) (fun _ _ _ _ _ => (pv 6))) (pe_lst pa_nil) (nomark _))
 (pss_one (ps_ret pe_bl))
 pss_nil)
 (pss_one (ps_ret (pe_callD D_lawsame (hr.mono (by omega)) (by rfl) (pa_cons (pe_lst (pa_cons (pe_listGD G_origins (hr.mono (by omega)) (by rfl) (by rfl) B.n_list (pa_cons (pv 1) (pa_cons (pv 2) pa_nil))) (pa_cons (pe_callD D_greatestorigin (hr.mono (by omega)) (by rfl) (pa_cons (pv 1) (pa_cons (pv 2) pa_nil))) pa_nil))) (pa_cons (pe_lst (pa_cons (pv 5) (pa_cons (pe_ix (r := rIxL K) ix_list (pv 5) (pe_un un_neg pe_int) (fun _ _ => rfl)) pa_nil))) pa_nil))))))))), ?_⟩
    refine ⟨_, rfl, l, d, mix, cnt, 101, rfl, S, by omega, by decide, by decide, fun z0 c0 H1 z00 z01 S1 hc1 k1 => ?_⟩
    have lim : sizeLine = 16777216 := sizeLine_eq
    have w3 : 3 ≤ sizeLine := by omega
    have w2 : 2 ≤ sizeLine := by omega
    obtain ⟨L, rfl⟩ : ∃ L : Nat, z0 = (L : Int) := ⟨z0.toNat, by omega⟩
    refine ⟨Nat.zero_le _, fun p hp => ⟨w3, fun t ht => ⟨t, _, rfl, .inl (.inl upd_same), rfl, _, _, rfl, _, _, rfl, _, _, rfl, rfl, ?_⟩⟩⟩
    have npl := S1.nel hp
    have npd := S1.ned hp
    have S2 := (S1.same (same_new (o := .lst []) hp)).same (same_new (o := .tup [.int (L : Int), .ref p, .int 1]) ht)
    have gp0 := same_new (o := .tup [.int (L : Int), .ref p, .int 1]) ht p _ upd_same
    have k2 : Keep H (upd (upd H1 p (.lst [])) t (.tup [.int (L : Int), .ref p, .int 1])) l d := (k1.new hp).new ht
    generalize upd (upd H1 p (.lst [])) t (.tup [.int (L : Int), .ref p, .int 1]) = H2 at S2 gp0 k2 ⊢
    have hpH : H p = none := k1.free S1 hp
    clear ht
    refine ⟨_, rfl, w3, fun t ht => ?_⟩
    refine ⟨_, rfl, l, d, mix, c0, 3, rfl, S2.same (same_new ht), by omega, by decide, by decide, fun z1 c1 H4 z10 z11 S4 hc4 k4 => ?_⟩
    obtain ⟨wide, wa, wb⟩ := at3 (a := 3) (b := 5) (c := 900) z10 z11
    refine ⟨t, _, z1, .int wide, rfl, rfl, SqL.of (k4 _ _ upd_same (S2.nel ht) (S2.ned ht)), wa, ?_⟩
    refine ⟨l, d, mix, c1, 12, wide, rfl, S4, by omega, by decide, by decide, by omega, by omega, fun p2 ls c2 H5 np S5 hc5 k5 gp2 lk hk => ?_⟩
    have gp5 := k5 _ _ (k4 _ _ (same_new ht _ _ gp0) npl npd) npl npd
    have kp5 : Keep H H5 l d := ((k2.trans (Keep.of (same_new ht))).trans k4).trans k5
    have n2 : p2 ≠ p := fun z => by
      rw [z, k4 _ _ (same_new ht _ _ gp0) npl npd] at np
      cases np
    have hcA : c2 ≤ cnt + 30 := by omega
    clear S4 k4 S2 k2 S1 k1 gp0 hc5 hc4 wa k5
    refine ⟨p2, rfl, ⟨_, SqL.of gp2⟩, for_list (K := K) (a := p2) (xs := ls.map V.int) (fun i σ H' => ∃ ks y4, σ = [some (.ref l), some (.int (L : Int)), some (.ref p), some (.int (pro ks)), y4, none, none] ∧ Src H' l d mix c2 ∧ Keep H H' l d ∧ H' p2 = some (.lst (List.map V.int ls)) ∧ H' p = some (.lst (ks.map V.int)) ∧ ks.length ≤ i ∧ (∀ k ∈ ks, 2 ≤ k ∧ k ≤ 1000) ∧ pro ks ≤ 10000)
      ⟨[], none, rfl, S5, kp5, gp2, gp5, Nat.le_refl _, fun k h => absurd h List.not_mem_nil, (by rw [show pro [] = 1 from rfl]; omega)⟩ (fun i σ H' _ h => by obtain ⟨_, _, _, _, _, h, _⟩ := h; exact SqL.of h) ?_ ?_⟩
    · rintro i v σ H' hi ⟨js, y4, rfl, S6, k6, g2, g1', lj, hj, top⟩
      have hil : i < ls.length := by
        have := (List.getElem?_eq_some_iff.mp hi).1
        rwa [List.length_map] at this
      obtain ⟨x, ex, rfl⟩ := map_at hi
      have hx := hk x (List.mem_of_getElem? ex)
      have pj := pro_pos (ks := js) fun k h => (hj k h).1
      refine ⟨_, rfl, _, rfl, pro js, x, rfl, rfl, .inr ⟨by omega, by omega⟩, _, 10000, rfl, rfl, _, rfl, ite2 (fun c => ?_) (fun c => ⟨js, _, rfl, S6, k6, g2, g1', by omega, hj, top⟩)⟩
      have c' : pro js * x ≤ 10000 := of_decide_eq_true c
      refine ⟨_, rfl, .inl ⟨rfl, _, SqL.of g1'⟩, _, rfl, p, _, _, rfl, rfl, g1', by rw [List.length_map]; omega, ?_⟩
      have pe : pro (js ++ [x]) = pro js * x := by
        rw [pro_app, show pro [x] = 1 * x from rfl, Int.one_mul]
      refine ⟨_, rfl, _, rfl, pro js, x, rfl, rfl, .inr ⟨by omega, by omega⟩, js ++ [x], some (.int x), ?_, ?_, ?_, ?_, ?_, ?_, ?_, ?_⟩
      · rw [pe]
        rfl
      · obtain ⟨cur, ds, h1, h2⟩ := S6.ob
        exact ⟨⟨cur, ds, by rw [upd_ne npl.symm]; exact h1, by rw [upd_ne npd.symm]; exact h2⟩, S6.m0, S6.m1, S6.c0, S6.ne⟩
      · intro b o e n1 n2'
        have nb : b ≠ p := fun z => by rw [z, hpH] at e; cases e
        rw [upd_ne nb]
        exact k6 b o e n1 n2'
      · rw [upd_ne n2]
        exact g2
      · rw [upd_same, List.map_append]
        rfl
      · rw [List.length_append]
        show js.length + 1 ≤ i + 1
        omega
      · intro k h
        rcases List.mem_append.mp h with h | h
        · exact hj k h
        · rw [List.mem_singleton.mp h]
          omega
      · rw [pe]
        exact c'
    rintro σ H6 ⟨ks, y4, rfl, S6, k6, _, gp6, lj, hj, top⟩
    have two : ∀ k ∈ ks, 2 ≤ k := fun k h => (hj k h).1
    have rk : Rpl ks := fun k h => by have := hj k h; omega
    have pk := pro_pos two
    obtain ⟨T, eT⟩ : ∃ T : Nat, (L : Int) * pro ks = (T : Int) := ⟨((L : Int) * pro ks).toNat, by
      have := Int.mul_nonneg (show (0 : Int) ≤ (L : Int) by omega) (show 0 ≤ pro ks by omega)
      omega⟩
    obtain ⟨Bd, eB⟩ : ∃ Bd : Nat, Bd = T + 1 := ⟨_, rfl⟩
    have hB : (L : Int) * pro ks < (Bd : Int) := by omega
    have sT : sN T ks = L := by
      have h1 := sq_mul ks (L : Int) two
      rw [Int.mul_comm, eT, sq_nat ks T two] at h1
      omega
    have gl := ordO_last two hB T eT sT
    have ol := orgs_len (L := L) two
    have hlen := ordO_len two hB
    have A6 : Ask K H6 L Bd p ks := ⟨gp6, hj, top, hB⟩
    refine ⟨_, rfl, _, rfl, L, Bd, p, ks, rfl, A6, fun pd H7 np7 s7 gd7 => ?_⟩
    have gp7 := s7 _ _ gp6
    have S7 := S6.same s7
    have k7 : Keep H H7 l d := k6.trans (Keep.of s7)
    obtain ⟨ns, ens⟩ : ∃ ns, ns = nats (ordO L ks Bd) := ⟨_, rfl⟩
    rw [← ens] at gd7
    have each : ∀ x ∈ ns, sq x ks = (L : Int) := fun x hx => by
      rw [ens] at hx
      obtain ⟨n, hn, rfl⟩ := List.mem_map.mp hx
      rw [sq_nat ks n two, (ordO_mem.mp hn).2]
    refine ⟨_, rfl, pd, rfl, ⟨_, SqL.of gd7⟩, fun D hD => lc_list (K := K) (a := pd) (xs := ns.map V.int) (fun b H' => Same H7 (wo H' D) ∧ H' D = some (.lst [])) ⟨by rw [wo_upd]; exact same_wo (Same.refl _) hD, upd_same⟩ (fun b H' _ h => SqL.of (wo_same _ _ (h.1 _ _ gd7))) ?_ ?_⟩
    · rintro b v H' hb ⟨s2, g2⟩
      obtain ⟨x, ex, rfl⟩ := map_at hb
      have hx := each x (List.mem_of_getElem? ex)
      refine ⟨rfl, ?_⟩
      exact ⟨_, rfl, _, rfl, x, p, ks, rfl, SqL.of (wo_same _ _ (s2 _ _ gp7)), rk, _, rfl, rfl, _, rfl, iteNS (congrArg V.int hx) ⟨s2, g2⟩⟩
    rintro H8 ⟨s8, g8⟩
    refine ⟨Nat.zero_le _, fun t3 ht3 => ⟨.list [], .list [], .lst (SqL.of (same_new ht3 _ _ g8)) .nil, .lst (SqL.of upd_same) .nil, rfl, rfl, _, rfl, iteF ?_⟩⟩
    have sn : Same H7 (upd H8 t3 (.lst [])) := (s8.trans wo_same).trans (same_new ht3)
    have gp9 := sn _ _ gp7
    have gd9 := sn _ _ gd7
    have S9 := S7.same sn
    have k9 : Keep H (upd H8 t3 (.lst [])) l d := k7.trans (Keep.of sn)
    generalize upd H8 t3 (.lst []) = H9 at gp9 gd9 S9 k9 ⊢
    refine ⟨_, rfl, _, rfl, L, Bd, p, ks, rfl, SqL.of gp9, hj, top, hB, fun H10 s10 pf hpf => ?_⟩
    rw [← ens]
    have gf := upd_same (H := H10) (a := pf) (o := .lst (ns.map V.int))
    have s11 := s10.trans (same_new (o := .lst (ns.map V.int)) hpf)
    generalize upd H10 pf (.lst (ns.map V.int)) = H11 at gf s11 ⊢
    refine ⟨_, rfl, _, rfl, (L : Int), p, ks, rfl, SqL.of (s11 _ _ gp9), by omega, rk, fun H12 s12 => ?_⟩
    rw [eT]
    refine ⟨w2, fun t1 ht1 => ?_⟩
    have s13 := (s11.trans s12).trans (same_new (o := .lst [.ref pf, .int (T : Int)]) ht1)
    have gf13 := same_new (o := .lst [.ref pf, .int (T : Int)]) ht1 _ _ (s12 _ _ gf)
    have gt13 : (upd H12 t1 (.lst [.ref pf, .int (T : Int)])) t1 = some (.lst [.ref pf, .int (T : Int)]) := upd_same
    generalize upd H12 t1 (.lst [.ref pf, .int (T : Int)]) = H13 at s13 gf13 gt13 ⊢
    have gd13 := s13 _ _ gd9
    have last : atI (ns.map V.int) (-1) = some (.int (T : Int)) := by
      have e : (ns.map V.int).getLast? = some (.int (T : Int)) := by
        rw [ens, nats, List.getLast?_map, List.getLast?_map, gl]
        rfl
      obtain ⟨h, e2⟩ := List.getLast?_eq_some_iff.mp e
      rw [e2]
      exact atI_last _ _
    refine ⟨_, rfl, _, rfl, 1, rfl, pd, _, -1, .int (T : Int), rfl, rfl, SqL.of gd13, last, w2, fun t2 ht2 => ?_⟩
    have nl : ns.length ≤ 100000 := by
      rw [ens, nats_len, hlen]
      omega
    have s14 := same_new (o := .lst [.ref pd, .int (T : Int)]) ht2
    refine ⟨_, _, .list [.list (ns.map PyData.int), .int (T : Int)], rfl, ?_, ?_, ?_, ?_, fun H14 s15 => q c2 H14 ((S9.same (s13.trans s14)).same s15) (by omega) ((k9.trans (Keep.of (s13.trans s14))).trans (Keep.of s15))⟩
    · exact .lst (SqL.of (s14 _ _ gt13)) (.cons (.lst (SqL.of (s14 _ _ gf13)) (dp_ints ns)) (.cons (.int _) .nil))
    · exact .lst (SqL.of upd_same) (.cons (.lst (SqL.of (s14 _ _ gd13)) (dp_ints ns)) (.cons (.int _) .nil))
    · show (decide (2 ≤ 100000) && (ld (.list (ns.map PyData.int)) && (true && true))) = true
      rw [ld_list nl]
      rfl
    · have := deep_ints ns
      show PyData.depthAll [.list (ns.map PyData.int), .int (T : Int)] + 1 < 4
      show max (PyData.depthAll (ns.map PyData.int) + 1) (max 0 0) + 1 < 4
      omega
end
end Sq
set_option Elab.async false
set_option linter.all false
set_option maxRecDepth 100000
set_option maxHeartbeats 8000000
set_option exponentiation.threshold 2000
namespace Sq
open PySem PySem.Spec PyProof.Rows L2
section
variable {P : Program} {w : World} {K : PySem.W.Frag} {mg : Str → Option Value} {base : Heap}
def spLaw (K : PySem.W.Frag) : Sp := fun vs H Q _ => ∃ (a : Addr) (ns : List Int), vs = [.ref a] ∧ SqL K H a (ns.map V.int) ∧ ns.length ≤ 63 ∧ ∀ H', Q (.bl true) H'
theorem ok_law {f : Addr} {fd : FuncData} (F : Fun K "law" "law" s_law f fd) (B : Bi mg)
    (D_lawsource : Df P w K mg base 1 "_law_source" ["script"] (spSource K)) (D_lawdraw : Df P w K mg base 1 "_law_draw" ["source", "many"] spDraw) (D_lawshort : Df P w K mg base 3 "_law_short" ["source", "goal"] spShort)
    (D_lawsqueezed : Df P w K mg base 2 "_law_squeezed" ["run", "row"] (spSqz K)) (G_origins : Dg P w K mg base 3 "origins" ["length", "replacements"] (spOrigins K)) (D_lawsame : Df P w K mg base 5 "_law_same" ["found", "wanted"] (spSame K 4))
    (D_greatestorigin : Df P w K mg base 2 "greatest_origin" ["length", "replacements"] (spGreatC K)) (D_countorigins : Df P w K mg base 2 "count_origins" ["length", "replacements", "last"] (spCount K))
    (D_lawfirst : Df P w K mg base 5 "_law_first" ["goal", "row", "few"] (spFirst K)) (D_lawpairs : Df P w K mg base 5 "_law_pairs" ["goal", "row"] (spPairs K)) (D_lawwideright : Df P w K mg base 8 "_law_wide_right" ["source"] spWide)
    {gk : List Value → List Value → List Value} (GK_origins : Dgk P w K mg base 3 "origins" ["length", "replacements"] ["replacements", "length"] gk (fun _ zs => zs.reverse) (spOrigins K)) (K_greatestorigin : Dk P w K mg base 2 "greatest_origin" ["length", "replacements"] ["replacements", "length"] (fun _ zs => zs.reverse) (spGreatC K))
    (K_countorigins : Dk P w K mg base 2 "count_origins" ["length", "replacements", "last"] ["last", "replacements", "length"] (fun _ zs => zs.reverse) (spCount K)) :
    Top P w K mg base 12 f fd "script" (spLaw K) := by
  refine atTop F sc_law ⟨rfl, by decide, by decide⟩ (fun vs H Q E h => ?_) (fun cdv outer s H vs Q E hr h => ?_)
  · obtain ⟨a, ns, rfl, _⟩ := h
    rfl
  · obtain ⟨a, ns, rfl, hS, hn, q⟩ := h
    refine ⟨_, (pss_cons (ps_set (i := 1) sc_law.nd rfl (Or.inr rfl) (pe_callD D_lawsource (hr.mono (by omega)) (by rfl) (pa_cons (pv 0) pa_nil)))
 (pss_cons (ps_for PassesOwn.never rfl (pi_range1 (by rfl) B.n_range (pa_cons (pe_op op_add pe_int (pe_callB (id := "min") (call_min2 rfl) (by rfl) B.n_min (by decide +kernel) (pa_cons pe_int (pa_cons (pe_callB (id := "len") (r := rLenK K) call_lenK (by rfl) B.n_len (by decide +kernel) (pa_cons (pv 0) pa_nil)) pa_nil)))) pa_nil)) (pg_name (i := 2) sc_law.nd rfl (Or.inl rfl))
 (pss_cons (ps_set (i := 3) sc_law.nd rfl (Or.inr rfl) (pe_callD D_lawdraw (hr.mono (by omega)) (by rfl) (pa_cons (pv 1) (pa_cons (pe_ix (r := rIxL K) ix_list (pe_lst (pa_cons pe_int (pa_cons pe_int (pa_cons pe_int pa_nil)))) (pe_callD D_lawdraw (hr.mono (by omega)) (by rfl) (pa_cons (pv 1) (pa_cons pe_int pa_nil))) (fun _ _ => rfl)) pa_nil))))
 (pss_cons (ps_set (i := 4) sc_law.nd rfl (Or.inr rfl) (pe_callD D_lawshort (hr.mono (by omega)) (by rfl) (pa_cons (pv 1) (pa_cons (pv 3) pa_nil))))
 (pss_cons (ps_set (i := 5) sc_law.nd rfl (Or.inr rfl) (pv 3))
 (pss_cons (ps_for PassesOwn.never rfl (pi_list (pv 4)) (pg_name (i := 6) sc_law.nd rfl (Or.inl rfl))
 (pss_one (ps_set (i := 5) sc_law.nd rfl (Or.inr rfl) (pe_op op_mul (pv 5) (pv 6)))))
 (pss_cons (ps_set (i := 7) sc_law.nd rfl (Or.inl rfl) (pe_callB (id := "repr") (call_reprV rfl hr.units) (by rfl) B.n_repr (by decide +kernel) (pa_cons (pv 4) pa_nil)))
 (pss_cons (ps_setLc (own := [("run", 8)]) (g := gName 8) (i := 9) rfl sc_law.nd rfl rfl (sw_true rfl rfl rfl (by decide +kernel)) (pi_range1 (by rfl) B.n_range (pa_cons (pe_op op_add (pv 5) pe_int) pa_nil)) (blkOk_by (own := [("run", 8)]) (N := ["script", "source", "k", "goal", "row", "top", "one", "saved", "run", "due", "told", "far", "time", "many", "few"]) (sc := defScope s_law) (by decide +kernel)) (fun _ _ _ _ _ => (pg_name (i := 8) sc_law.nd rfl (Or.inl rfl))) (fun _ _ _ _ _ => pts_one (pt_cmpR op_eq (pe_callD D_lawsqueezed (hr.mono (by omega)) (by rfl) (pa_cons (pv 8) (pa_cons (pv 4) pa_nil))) (pv 3) (nomark _))) (fun _ _ _ _ _ => (pv 8)))
 (pss_cons (ps_set (i := 10) sc_law.nd rfl (Or.inl rfl) (pe_lst (pa_cons (pe_listGD G_origins (hr.mono (by omega)) (by rfl) (by rfl) B.n_list (pa_cons (pv 3) (pa_cons (pv 4) pa_nil))) (pa_cons (pe_listGK GK_origins (hr.mono (by omega)) (by rfl) (by rfl) B.n_list (pk_cons (pv 4) (pk_cons (pv 3) pk_nil))) pa_nil))))
 (pss_cons (ps_if (pt_not (pt_val (pe_callD D_lawsame (hr.mono (by omega)) (by rfl) (pa_cons (pv 10) (pa_cons (pe_op op_rep (pe_lst (pa_cons (pv 9) pa_nil)) pe_int) pa_nil)))))
 (pss_one (ps_ret pe_bl))
 pss_nil)
 (pss_cons (ps_if (pt_not (pt_val (pe_callD D_lawsame (hr.mono (by omega)) (by rfl) (pa_cons (pe_lst (pa_cons (pe_callD D_greatestorigin (hr.mono (by omega)) (by rfl) (pa_cons (pv 3) (pa_cons (pv 4) pa_nil))) (pa_cons (pe_callKD K_greatestorigin (hr.mono (by omega)) (by rfl) (pk_cons (pv 4) (pk_cons (pv 3) pk_nil))) pa_nil))) (pa_cons (pe_op op_rep (pe_lst (pa_cons (pe_ix (r := rIxL K) ix_list (pv 9) (pe_un un_neg pe_int) (fun _ _ => rfl)) pa_nil)) pe_int) pa_nil)))))
 (pss_one (ps_ret pe_bl))
 pss_nil)
 (pss_cons (ps_for PassesOwn.never rfl (pi_list (pe_op op_cat (pe_lst (pa_cons pe_int (pa_cons pe_int (pa_cons (pe_op op_sub (pv 5) pe_int) (pa_cons (pv 5) (pa_cons (pe_op op_add (pv 5) pe_int) (pa_cons (pe_op op_sub (pe_op op_pow pe_int pe_int) pe_int) pa_nil))))))) (pe_lc (own := [("time", 12)]) (g := gName 12) rfl sc_law.nd (pi_range1 (by rfl) B.n_range (pa_cons pe_int pa_nil)) (blkOk_by (own := [("time", 12)]) (N := ["script", "source", "k", "goal", "row", "top", "one", "saved", "run", "due", "told", "far", "time", "many", "few"]) (sc := defScope s_law) (by decide +kernel)) (fun _ _ _ _ _ => (pg_name (i := 12) sc_law.nd rfl (Or.inl rfl))) (fun _ _ _ _ _ => pts_nil) (fun _ _ _ _ _ => (pe_callD D_lawdraw (hr.mono (by omega)) (by rfl) (pa_cons (pv 1) (pa_cons (pe_op op_add (pv 5) pe_int) pa_nil))))))) (pg_name (i := 11) sc_law.nd rfl (Or.inr rfl))
 (pss_cons (ps_set (i := 13) sc_law.nd rfl (Or.inl rfl) (pe_callB (id := "len") (r := rLenK K) call_lenK (by rfl) B.n_len (by decide +kernel) (pa_cons (pe_lc (own := [("run", 8)]) (g := gName 8) rfl sc_law.nd (pi_list (pv 9)) (blkOk_by (own := [("run", 8)]) (N := ["script", "source", "k", "goal", "row", "top", "one", "saved", "run", "due", "told", "far", "time", "many", "few"]) (sc := defScope s_law) (by decide +kernel)) (fun _ _ _ _ _ => (pg_name (i := 8) sc_law.nd rfl (Or.inl rfl))) (fun _ _ _ _ _ => pts_one (pt_cmpR op_le (pv 8) (pv 11) (nomark _))) (fun _ _ _ _ _ => (pv 8))) pa_nil)))
 (pss_one (ps_if (PW.pt (pw_and (pt_cmpR op_ge (pv 11) pe_int (nomark _)) (pw_and1 (pt_not (pt_val (pe_callD D_lawsame (hr.mono (by omega)) (by rfl) (pa_cons (pe_callD D_countorigins (hr.mono (by omega)) (by rfl) (pa_cons (pv 3) (pa_cons (pv 4) (pa_cons (pv 11) pa_nil)))) (pa_cons (pv 13) pa_nil))))))))
 (pss_one (ps_ret pe_bl))
 pss_nil))))
 (pss_cons (ps_set (i := 14) sc_law.nd rfl (Or.inl rfl) (pe_op op_add pe_int (pe_callD D_lawdraw (hr.mono (by omega)) (by rfl) (pa_cons (pv 1) (pa_cons (pe_callB (id := "len") (r := rLenK K) call_lenK (by rfl) B.n_len (by decide +kernel) (pa_cons (pv 9) pa_nil)) pa_nil)))))
 (pss_cons (ps_if (PW.pt (pw_or (pt_cmpR (op_neD hr.units) (pe_callD D_lawfirst (hr.mono (by omega)) (by rfl) (pa_cons (pv 3) (pa_cons (pv 4) (pa_cons (pv 14) pa_nil)))) (pe_slice sl_list (pv 9) po_none (po_some (pv 14))) (nomark _)) (pw_or1 (pt_cmpR (op_neD hr.units) (pe_callD D_lawpairs (hr.mono (by omega)) (by rfl) (pa_cons (pv 3) (pa_cons (pv 4) pa_nil))) (pe_lc (own := [("run", 8)]) (g := gName 8) rfl sc_law.nd (pi_list (pv 9)) (blkOk_by (own := [("run", 8)]) (N := ["script", "source", "k", "goal", "row", "top", "one", "saved", "run", "due", "told", "far", "time", "many", "few"]) (sc := defScope s_law) (by decide +kernel)) (fun _ _ _ _ _ => (pg_name (i := 8) sc_law.nd rfl (Or.inl rfl))) (fun _ _ _ _ _ => pts_nil) (fun _ _ _ _ _ => (pe_lst (pa_cons (pv 8) (pa_cons (pv 8) pa_nil))))) (nomark _)))))
 (pss_one (ps_ret pe_bl))
 pss_nil)
 (pss_cons (ps_if (pt_cmpR op_ne (pe_callB (id := "repr") (call_reprV rfl hr.units) (by rfl) B.n_repr (by decide +kernel) (pa_cons (pv 4) pa_nil)) (pv 7) (nomark _))
 (pss_one (ps_ret pe_bl))
 pss_nil)
 (pss_one (ps_if (PW.pt (pw_or (pt_cmpR op_ne (pe_callKD K_countorigins (hr.mono (by omega)) (by rfl) (pk_cons (pv 5) (pk_cons (pv 4) (pk_cons (pv 3) pk_nil)))) (pe_callB (id := "len") (r := rLenK K) call_lenK (by rfl) B.n_len (by decide +kernel) (pa_cons (pv 9) pa_nil)) (nomark _)) (pw_or1 (pt_not (pt_val (pe_callD D_lawwideright (hr.mono (by omega)) (by rfl) (pa_cons (pv 1) pa_nil)))))))
 (pss_one (ps_ret pe_bl))
 pss_nil))))))))))))))))
 (pss_one (ps_ret (pe_and (pe_cmpR (op_eqD hr.units) (pe_listGD G_origins (hr.mono (by omega)) (by rfl) (by rfl) B.n_list (pa_cons pe_int (pa_cons (pe_lst (pa_cons pe_int (pa_cons pe_int pa_nil))) pa_nil))) (pe_lst (pa_cons pe_int (pa_cons pe_int (pa_cons pe_int (pa_cons pe_int (pa_cons pe_int pa_nil)))))) (nomark _)) (pe_one (pe_cmpR (op_eqD hr.units) (pe_listGD G_origins (hr.mono (by omega)) (by rfl) (by rfl) B.n_list (pa_cons pe_int (pa_cons (pe_lst (pa_cons pe_int pa_nil)) pa_nil))) (pe_lst (pa_cons pe_int pa_nil)) (nomark _)))))))), ?_⟩
    have lim : sizeLine = 16777216 := sizeLine_eq
    have w3 : 3 ≤ sizeLine := by omega
    have w2 : 2 ≤ sizeLine := by omega
    have w6 : 6 ≤ sizeLine := by omega
    have e30 : (10 : Int) ^ (30 : Int).toNat = 1000000000000000000000000000000 := by decide
    have small : ∀ {z : Int}, 0 ≤ z → z ≤ 1000000000000000000000000000000 → z.natAbs < 2 ^ 500 := fun h0 h1 => Nat.lt_of_le_of_lt (show _ ≤ 10 ^ 30 by omega) (by decide)
    refine ⟨_, rfl, a, ns, rfl, hS, hn, fun l d mix H1 hl hd s1 S1 => ?_⟩
    refine ⟨_, rfl, a, _, rfl, .inl (s1.seq hS), 8, _, rfl, 3, _, rfl, rfl, ?_⟩
    rw [List.length_map]
    have hN : 3 + (if (ns.length : Int) < 8 then (ns.length : Int) else 8) ≤ 11 ∧ 0 ≤ 3 + (if (ns.length : Int) < 8 then (ns.length : Int) else 8) := by
      split <;> omega
    obtain ⟨N, eN⟩ : ∃ N, N = 3 + (if (ns.length : Int) < 8 then (ns.length : Int) else 8) := ⟨_, rfl⟩
    rw [← eN] at hN
    refine ⟨N, by subst eN; rfl, by omega, by omega, for_range (lo := 0) (n := N.toNat) (fun i σ H' => ∃ cnt y2 y3 y4 y5 y6 y7 y8 y9 y10 y11 y12 y13 y14, σ = [some (.ref a), some (.ref l), y2, y3, y4, y5, y6, y7, y8, y9, y10, y11, y12, y13, y14] ∧ Src H' l d mix cnt ∧ cnt ≤ 500 * i)
      ⟨0, none, none, none, none, none, none, none, none, none, none, none, none, none, rfl, S1, by omega⟩ ?_ ?_⟩
    · rintro i σ H2 hi ⟨cnt, y2, y3, y4, y5, y6, y7, y8, y9, y10, y11, y12, y13, y14, rfl, S2, hc2⟩
      have i11 : i < 11 := by omega
      refine ⟨_, rfl, w3, fun t ht => ?_⟩
      refine ⟨_, rfl, l, d, mix, cnt, 3, rfl, S2.same (same_new ht), by omega, by decide, by decide, fun z1 c1 H4 z10 z11 S4 hc4 k4 => ?_⟩
      obtain ⟨wide, wa, wb⟩ := at3 (a := 3) (b := 12) (c := 101) z10 z11
      refine ⟨t, _, z1, .int wide, rfl, rfl, SqL.of (k4 _ _ upd_same (S2.nel ht) (S2.ned ht)), wa, ?_⟩
      refine ⟨l, d, mix, c1, wide, rfl, S4, by omega, by omega, small (by omega) (by omega), fun g0 c2 H5 g00 g01 S5 hc5 k5 => ?_⟩
      obtain ⟨L, rfl⟩ : ∃ L : Nat, g0 = (L : Int) := ⟨g0.toNat, by omega⟩
      have L100 : L ≤ 100 := by omega
      clear wa k4 S4 z10 z11 k5
      refine ⟨_, rfl, _, rfl, l, d, mix, c2, (L : Int), rfl, S5, by omega, by omega, by omega, fun p ks c3 H6 np S6 hc6 k6 gp lk hk top => ?_⟩
      have hcA : c3 ≤ cnt + 22 := by omega
      have npl := S5.nel np
      have npd := S5.ned np
      have two : ∀ k ∈ ks, 2 ≤ k := fun k h => (hk k h).1
      have hk1000 : ∀ k ∈ ks, 2 ≤ k ∧ k ≤ 1000 := fun k h => by have := hk k h; omega
      have hkb : ∀ k ∈ ks, 2 ≤ k ∧ k < 1073741824 := fun k h => by have := hk k h; omega
      have hk12 : ∀ k ∈ ks, k.natAbs < 10 ^ 12 := fun k h => by have := hk k h; omega
      have rk : Rpl ks := hkb
      have pk := pro_pos two
      obtain ⟨T, eT⟩ : ∃ T : Nat, (L : Int) * pro ks = (T : Int) := ⟨((L : Int) * pro ks).toNat, by
        have := Int.mul_nonneg (show (0 : Int) ≤ (L : Int) by omega) (show 0 ≤ pro ks by omega)
        omega⟩
      have pm : pro ks ≤ 4000 ∧ (T : Int) ≤ 4000 := by
        by_cases c : (1 : Int) < (L : Int)
        · rw [if_pos c, eT] at top
          have : 1 * pro ks ≤ (L : Int) * pro ks := Int.mul_le_mul_of_nonneg_right (by omega) (by omega)
          omega
        · rw [if_neg c, Int.one_mul] at top
          have : (L : Int) * pro ks ≤ 1 * pro ks := Int.mul_le_mul_of_nonneg_right (by omega) (by omega)
          omega
      clear S5 hc5 g00 g01 hc4 hc6 wb top k6
      -- top
      have mul_take : ∀ {xs : List Int} {b : Nat} {x : Int}, xs[b]? = some x → (L : Int) * pro (xs.take b) * x = (L : Int) * pro (xs.take (b + 1)) := fun {xs b x} e => by
        rw [List.take_add_one, e]
        show _ = (L : Int) * pro (xs.take b ++ [x])
        rw [pro_app, ← Int.mul_assoc, show pro [x] = 1 * x from rfl, Int.one_mul]
      refine ⟨_, rfl, _, rfl, p, rfl, ⟨_, SqL.of gp⟩, for_list (K := K) (a := p) (xs := ks.map V.int) (fun b σ H' => H' = H6 ∧ ∃ y6, σ = [some (.ref a), some (.ref l), some (.int (0 + (i : Int))), some (.int (L : Int)), some (.ref p), some (.int ((L : Int) * pro (ks.take b))), y6, y7, y8, y9, y10, y11, y12, y13, y14])
        ⟨rfl, y6, by rw [List.take_zero, show pro [] = 1 from rfl, Int.mul_one]; rfl⟩ (fun b σ H' _ h => by rw [h.1]; exact SqL.of gp) ?_ ?_⟩
      · rintro b v σ H' hb ⟨rfl, y6, rfl⟩
        obtain ⟨x, ex, rfl⟩ := map_at hb
        have hx := hk x (List.mem_of_getElem? ex)
        refine ⟨_, rfl, _, rfl, _, x, rfl, rfl, .inr ⟨by omega, by omega⟩, rfl, some (.int x), ?_⟩
        dsimp only
        rw [mul_take ex]
        rfl
      rintro σ H6 ⟨rfl, y6', rfl⟩
      rw [List.length_map, List.take_length, eT]
      -- saved
      have sh : ∀ {H' : Hp}, H' p = some (.lst (ks.map V.int)) → Shown K H' (.ref p) (.list (ks.map PyData.int)) := fun {H'} g => ⟨.lst (SqL.of g) (dp_ints ks), shows_ints ks hk12, nodict_ints ks, dep40 ks, short_ints hk12 (by omega)⟩
      refine ⟨_, rfl, _, _, rfl, sh gp, ?_⟩
      -- due
      obtain ⟨Bd, eB⟩ : ∃ Bd : Nat, Bd = T + 20 := ⟨_, rfl⟩
      have hB : (L : Int) * pro ks < (Bd : Int) := by omega
      refine ⟨_, rfl, _, 20, rfl, rfl, (T : Int) + 20, rfl, by omega, by omega, fun D hD => lc_range (lo := 0) (n := ((T : Int) + 20).toNat) (fun j H' => Same H6 (wo H' D) ∧ H' D = some (.lst ((nats (ordO L ks j)).map V.int))) ⟨by rw [wo_upd]; exact same_wo (Same.refl _) hD, upd_same⟩ ?_ ?_⟩
      · rintro j H' hj ⟨s2, g2⟩
        refine ⟨rfl, ?_⟩
        refine ⟨_, rfl, _, rfl, (0 + (j : Int)), p, ks, rfl, SqL.of (wo_same _ _ (s2 _ _ gp)), rk, ?_⟩
        have ez : sq (0 + (j : Int)) ks = ((sN j ks : Nat) : Int) := by rw [Int.zero_add, sq_nat ks j two]
        have eo : ordO L ks (j + 1) = ordO L ks j ++ (if sN j ks = L then [j] else []) := by
          unfold ordO
          rw [List.range_succ, List.filter_append]
          by_cases c : sN j ks = L
          · rw [if_pos c, List.filter_cons_of_pos (by rw [decide_eq_true_iff]; exact c)]
            rfl
          · rw [if_neg c, List.filter_cons_of_neg (by rw [decide_eq_true_iff]; exact c)]
            rfl
        refine ⟨_, rfl, rfl, _, rfl, ite2 (fun c => ?_) (fun c => ?_)⟩
        · have c1 := of_decide_eq_true c
          rw [ez] at c1
          have c2 : sN j ks = L := by
            injection c1 with c1
            omega
          rw [if_pos c2] at eo
          have lo : (ordO L ks j).length ≤ j := by
            unfold ordO
            have := List.length_filter_le (fun x => decide (sN x ks = L)) (List.range j)
            rw [List.length_range] at this
            exact this
          refine ⟨_, rfl, _, g2, by rw [List.length_map, nats_len]; omega, by rw [wo_upd]; exact s2, ?_⟩
          rw [upd_same, eo, nats_app, List.map_append]
          show some (HO.lst (_ ++ [V.int (0 + (j : Int))])) = _
          rw [Int.zero_add]
          rfl
        · have c2 : ¬ sN j ks = L := fun z => c (by rw [ez, z]; exact decide_eq_true rfl)
          rw [if_neg c2, List.append_nil] at eo
          rw [eo]
          exact ⟨s2, g2⟩
      rintro H7 ⟨s7, g7⟩
      rw [show ((T : Int) + 20).toNat = Bd by omega] at g7
      obtain ⟨ds, eds⟩ : ∃ ds, ds = nats (ordO L ks Bd) := ⟨_, rfl⟩
      rw [← eds] at g7
      have s67 : Same H6 H7 := s7.trans wo_same
      have gp7 := s67 _ _ gp
      have S7 := S6.same s67
      have npl7 : p ≠ l := npl
      have ol := orgs_len (L := L) two
      have hlen := ordO_len two hB
      have dl : ds.length = (ordO L ks Bd).length := by rw [eds, nats_len]
      have dl4 : ds.length ≤ 4000 := by omega
      have sT : sN T ks = L := by
        have h1 := sq_mul ks (L : Int) two
        rw [Int.mul_comm, eT, sq_nat ks T two] at h1
        omega
      have gl := ordO_last two hB T eT sT
      have hD6 : H6 D = none := hD
      have hDl := S6.nel hD6
      have hDd := S6.ned hD6
      clear s7 hD
      -- told
      refine ⟨_, rfl, _, rfl, L, Bd, p, ks, rfl, SqL.of gp7, hk1000, by omega, hB, fun H8 s8 f1 hf1 => ?_⟩
      rw [← eds]
      have gf1 := upd_same (H := H8) (a := f1) (o := .lst (ds.map V.int))
      have s8' := s8.trans (same_new (o := .lst (ds.map V.int)) hf1)
      generalize upd H8 f1 (.lst (ds.map V.int)) = H9 at gf1 s8' ⊢
      refine ⟨_, rfl, _, rfl, rfl, L, Bd, p, ks, rfl, SqL.of (s8' _ _ gp7), hk1000, by omega, hB, fun H10 s10 f2 hf2 => ?_⟩
      rw [← eds]
      have gf2 := upd_same (H := H10) (a := f2) (o := .lst (ds.map V.int))
      have s10' := s10.trans (same_new (o := .lst (ds.map V.int)) hf2)
      generalize upd H10 f2 (.lst (ds.map V.int)) = H11 at gf2 s10' ⊢
      refine ⟨w2, fun f3 hf3 => ?_⟩
      have gf3 := upd_same (H := H11) (a := f3) (o := .lst [.ref f1, .ref f2])
      have s11' := same_new (o := .lst [.ref f1, .ref f2]) hf3
      generalize upd H11 f3 (.lst [.ref f1, .ref f2]) = H12 at gf3 s11' ⊢
      have s711 := (s8'.trans s10').trans s11'
      refine ⟨_, rfl, _, rfl, (by show 1 ≤ _; omega), fun t1 ht1 => ⟨t1, 2, _, rfl, rfl, upd_same, by decide, by decide, (by show 1 * (2 : Int).toNat ≤ _; rw [lim]; decide), fun t2 ht2 => ?_⟩⟩
      have s12' := (same_new (o := .lst [.ref D]) ht1).trans (same_new (o := .lst (List.replicate (2 : Int).toNat [V.ref D]).flatten) ht2)
      have gt2 : (upd (upd H12 t1 (.lst [.ref D])) t2 (.lst (List.replicate (2 : Int).toNat [V.ref D]).flatten)) t2 = some (.lst [.ref D, .ref D]) := upd_same
      generalize upd (upd H12 t1 (.lst [.ref D])) t2 (.lst (List.replicate (2 : Int).toNat [V.ref D]).flatten) = H13 at gt2 s12' ⊢
      have gD13 := s12' _ _ (s711 _ _ g7)
      have gf1' := s12' _ _ (s11' _ _ (s10' _ _ gf1))
      have gf2' := s12' _ _ (s11' _ _ gf2)
      have gf3' := s12' _ _ gf3
      have dd := deep_ints ds
      refine ⟨_, _, .list [.list (ds.map PyData.int), .list (ds.map PyData.int)], rfl, ?_, ?_, ?_, ?_, fun H14 s14 => ⟨_, rfl, iteF ?_⟩⟩
      · exact .lst (SqL.of gf3') (.cons (.lst (SqL.of gf1') (dp_ints ds)) (.cons (.lst (SqL.of gf2') (dp_ints ds)) .nil))
      · exact .lst (SqL.of gt2) (.cons (.lst (SqL.of gD13) (dp_ints ds)) (.cons (.lst (SqL.of gD13) (dp_ints ds)) .nil))
      · show (decide (2 ≤ 100000) && (ld (.list (ds.map PyData.int)) && (ld (.list (ds.map PyData.int)) && true))) = true
        rw [ld_list (by omega)]
        rfl
      · show PyData.depthAll [.list (ds.map PyData.int), .list (ds.map PyData.int)] + 1 < 4
        show max (PyData.depthAll (ds.map PyData.int) + 1) (max (PyData.depthAll (ds.map PyData.int) + 1) 0) + 1 < 4
        omega
      have s714 := (s711.trans s12').trans s14
      have gp14 := s714 _ _ gp7
      have gD14 := s714 _ _ g7
      have S14 := S7.same s714
      have gq14 := s14 _ _ gf3'
      clear gf1 s8' gf2 s10' gf3 s11' s711 s12' gt2 gD13 gf1' gf2' gf3' s14 ht1 ht2 hf1 hf2 hf3 s8 s10
      -- the greatest
      refine ⟨_, rfl, _, rfl, (L : Int), p, ks, rfl, SqL.of gp14, by omega, rk, fun H15 s15 => ?_⟩
      rw [eT]
      refine ⟨_, rfl, _, rfl, rfl, rfl, (L : Int), p, ks, rfl, SqL.of (s15 _ _ gp14), by omega, rk, fun H16 s16 => ?_⟩
      rw [eT]
      refine ⟨w2, fun t1 ht1 => ?_⟩
      have last : atI (ds.map V.int) (-1) = some (.int (T : Int)) := by
        have e : (ds.map V.int).getLast? = some (.int (T : Int)) := by
          rw [eds, nats, List.getLast?_map, List.getLast?_map, gl]
          rfl
        obtain ⟨h, e2⟩ := List.getLast?_eq_some_iff.mp e
        rw [e2]
        exact atI_last _ _
      have s17 := (s15.trans s16).trans (same_new (o := .lst [.int (T : Int), .int (T : Int)]) ht1)
      have gt1 := upd_same (H := H16) (a := t1) (o := .lst [.int (T : Int), .int (T : Int)])
      generalize upd H16 t1 (.lst [.int (T : Int), .int (T : Int)]) = H17 at s17 gt1 ⊢
      refine ⟨_, rfl, 1, rfl, D, _, -1, .int (T : Int), rfl, rfl, SqL.of (s17 _ _ gD14), last, (by show 1 ≤ _; omega), fun t2 ht2 => ⟨t2, 2, _, rfl, rfl, upd_same, by decide, by decide, (by show 1 * (2 : Int).toNat ≤ _; rw [lim]; decide), fun t3 ht3 => ?_⟩⟩
      have s18 := (same_new (o := .lst [.int (T : Int)]) ht2).trans (same_new (o := .lst (List.replicate (2 : Int).toNat [V.int (T : Int)]).flatten) ht3)
      have gt3 : (upd (upd H17 t2 (.lst [.int (T : Int)])) t3 (.lst (List.replicate (2 : Int).toNat [V.int (T : Int)]).flatten)) t3 = some (.lst [.int (T : Int), .int (T : Int)]) := upd_same
      generalize upd (upd H17 t2 (.lst [.int (T : Int)])) t3 (.lst (List.replicate (2 : Int).toNat [V.int (T : Int)]).flatten) = H18 at s18 gt3 ⊢
      refine ⟨_, _, .list [.int (T : Int), .int (T : Int)], rfl, .lst (SqL.of (s18 _ _ gt1)) (.cons (.int _) (.cons (.int _) .nil)), .lst (SqL.of gt3) (.cons (.int _) (.cons (.int _) .nil)), rfl, (by show max 0 (max 0 0) + 1 < 4; decide), fun H19 s19 => ⟨_, rfl, iteF ?_⟩⟩
      have s1419 := (s17.trans s18).trans s19
      have gp19 := s1419 _ _ gp14
      have gD19 := s1419 _ _ gD14
      have S19 := S14.same s1419
      clear s15 s16 s17 gt1 s18 gt3 s19 ht1 ht2 ht3 s1419 gp14 gD14 S14 s714 gq14 gp7 S7 g7 s67
      -- the limits
      refine ⟨_, rfl, _, 1, rfl, rfl, _, rfl, _, rfl, _, 1, rfl, rfl, 10, 30, rfl, rfl, ⟨by decide, by decide, by decide⟩, _, 1, rfl, rfl, w6, fun t1 ht1 => ?_⟩
      have gp20 := same_new (o := .lst [.int 0, .int 1, .int ((T : Int) - 1), .int (T : Int), .int ((T : Int) + 1), .int (10 ^ (30 : Int).toNat - 1)]) ht1 _ _ gp19
      have gD20 := same_new (o := .lst [.int 0, .int 1, .int ((T : Int) - 1), .int (T : Int), .int ((T : Int) + 1), .int (10 ^ (30 : Int).toNat - 1)]) ht1 _ _ gD19
      have S20 := S19.same (same_new (o := .lst [.int 0, .int 1, .int ((T : Int) - 1), .int (T : Int), .int ((T : Int) + 1), .int (10 ^ (30 : Int).toNat - 1)]) ht1)
      have gt20 : (upd H19 t1 (.lst [.int 0, .int 1, .int ((T : Int) - 1), .int (T : Int), .int ((T : Int) + 1), .int (10 ^ (30 : Int).toNat - 1)])) t1 = some (.lst ([0, 1, (T : Int) - 1, (T : Int), (T : Int) + 1, 10 ^ (30 : Int).toNat - 1].map V.int)) := upd_same
      have npl1 := S19.nel ht1
      have npd1 := S19.ned ht1
      have nDl : D ≠ l := hDl
      have nDd : D ≠ d := hDd
      generalize upd H19 t1 (.lst [.int 0, .int 1, .int ((T : Int) - 1), .int (T : Int), .int ((T : Int) + 1), .int (10 ^ (30 : Int).toNat - 1)]) = H20 at gp20 gD20 S20 gt20 ⊢
      refine ⟨12, rfl, by decide, by decide, fun C hC => lc_range (lo := 0) (n := 12) (fun j H' => ∃ cnt' zs, Src H' l d mix cnt' ∧ cnt' ≤ c3 + j ∧ Keep H20 H' l d ∧ H' C = some (.lst (List.map V.int zs)) ∧ zs.length = j) ⟨c3, [], S20.same (same_new hC), by omega, Keep.of (same_new hC), upd_same, rfl⟩ ?_ ?_⟩
      · rintro j H' hj ⟨cnt', zs, S', hc', k', gz, lz⟩
        have nCl := S20.nel hC
        have nCd := S20.ned hC
        refine ⟨rfl, ?_⟩
        refine ⟨_, rfl, _, rfl, _, 9, rfl, rfl, l, d, mix, cnt', (T : Int) + 9, rfl, S', by omega, by omega, small (by omega) (by omega), fun z c9 H9 z0 z1' S9 hc9 k9 => ⟨_, k9 _ _ gz nCl nCd, by rw [List.length_map]; omega, c9, zs ++ [z], ?_, by omega, ?_, ?_, ?_⟩⟩
        · obtain ⟨cur, dg, h1, h2⟩ := S9.ob
          exact ⟨⟨cur, dg, by rw [upd_ne nCl.symm]; exact h1, by rw [upd_ne nCd.symm]; exact h2⟩, S9.m0, S9.m1, S9.c0, S9.ne⟩
        · intro b o e n1 n2
          have nb : b ≠ C := ne_of_none e hC
          rw [upd_ne nb]
          exact k9 _ _ (k' b o e n1 n2) n1 n2
        · rw [upd_same, List.map_append]
          rfl
        · rw [List.length_append, lz]
          rfl
      rintro H21 ⟨c21, zs, S21, hc21, k21, gz, lz⟩
      have gp21 := k21 _ _ gp20 npl npd
      have gD21 := k21 _ _ gD20 nDl nDd
      have gt21 := k21 _ _ gt20 npl1 npd1
      refine ⟨t1, C, _, _, rfl, rfl, gt21, gz, by rw [List.length_map, List.length_map, lz]; show 6 + 12 ≤ _; omega, fun q1 hq1 => ?_⟩
      obtain ⟨fars, ef⟩ : ∃ fars, fars = [0, 1, (T : Int) - 1, (T : Int), (T : Int) + 1, 10 ^ (30 : Int).toNat - 1] ++ zs := ⟨_, rfl⟩
      have ef' : ([0, 1, (T : Int) - 1, (T : Int), (T : Int) + 1, 10 ^ (30 : Int).toNat - 1].map V.int) ++ zs.map V.int = fars.map V.int := by rw [ef, List.map_append]
      rw [ef']
      have gq22 := upd_same (H := H21) (a := q1) (o := .lst (fars.map V.int))
      have s22 := same_new (o := .lst (fars.map V.int)) hq1
      generalize upd H21 q1 (.lst (fars.map V.int)) = H22 at gq22 s22 ⊢
      have gp22 := s22 _ _ gp21
      have gD22 := s22 _ _ gD21
      have S22 := S21.same s22
      have hcB : c21 ≤ cnt + 34 := by omega
      clear S21 hc21 k21 gz gt21 gt20 S20 S19 gp20 gD20 gp19 gD19 gp21 gD21 s22 hq1 ht1
      refine ⟨q1, rfl, ⟨_, SqL.of gq22⟩, for_list (K := K) (a := q1) (xs := fars.map V.int) (fun b σ H' => Same H22 H' ∧ ∃ y8 y11 y12 y13, σ = [some (.ref a), some (.ref l), some (.int (0 + (i : Int))), some (.int (L : Int)), some (.ref p), some (.int (T : Int)), y6', some (.str (PyData.list (ks.map PyData.int)).shown), y8, some (.ref D), some (.ref f3), y11, y12, y13, y14])
        ⟨Same.refl _, _, _, _, _, rfl⟩ (fun b σ H' _ h => SqL.of (h.1 _ _ gq22)) ?_ ?_⟩
      · rintro b v σ H23 hb ⟨s23, y8, y11, y12, y13, rfl⟩
        obtain ⟨far, ex, rfl⟩ := map_at hb
        have gp23 := s23 _ _ gp22
        have gD23 := s23 _ _ gD22
        refine ⟨_, rfl, D, rfl, ⟨_, SqL.of gD23⟩, fun C2 hC2 => lc_list (K := K) (a := D) (xs := ds.map V.int) (fun j H' => Same H23 (wo H' C2) ∧ H' C2 = some (.lst (((ds.take j).filter fun x => decide (x ≤ far)).map V.int))) ⟨by rw [wo_upd]; exact same_wo (Same.refl _) hC2, upd_same⟩ (fun j H' _ h => SqL.of (wo_same _ _ (h.1 _ _ gD23))) ?_ ?_⟩
        · rintro j v H' hj ⟨s2, g2⟩
          obtain ⟨x, exj, rfl⟩ := map_at hj
          have jl := (List.getElem?_eq_some_iff.mp exj).1
          have tk : (ds.take (j + 1)).filter (fun x => decide (x ≤ far)) = (ds.take j).filter (fun x => decide (x ≤ far)) ++ (if x ≤ far then [x] else []) := by
            rw [List.take_add_one, exj, List.filter_append]
            show _ ++ List.filter _ [x] = _
            by_cases c : x ≤ far
            · rw [if_pos c, List.filter_cons_of_pos (by rw [decide_eq_true_iff]; exact c)]
              rfl
            · rw [if_neg c, List.filter_cons_of_neg (by rw [decide_eq_true_iff]; exact c)]
              rfl
          refine ⟨rfl, ?_⟩
          refine ⟨_, rfl, _, rfl, _, _, rfl, rfl, _, rfl, ite2 (fun c => ?_) (fun c => ?_)⟩
          · have c' : x ≤ far := of_decide_eq_true c
            rw [if_pos c'] at tk
            have le := List.length_filter_le (fun x => decide (x ≤ far)) (ds.take j)
            rw [List.length_take] at le
            refine ⟨_, rfl, _, g2, by rw [List.length_map]; omega, by rw [wo_upd]; exact s2, ?_⟩
            rw [upd_same, tk, List.map_append]
            rfl
          · have c' : ¬ x ≤ far := fun z => c (decide_eq_true z)
            rw [if_neg c', List.append_nil] at tk
            rw [tk]
            exact ⟨s2, g2⟩
        rintro H24 ⟨s24, g24⟩
        rw [List.length_map, List.take_length] at g24
        have s2324 := s24.trans (wo_same (H := H24) (D := C2))
        have gp24 := s2324 _ _ gp23
        refine ⟨C2, _, rfl, .inl (SqL.of g24), ?_⟩
        rw [List.length_map]
        by_cases c0 : 0 ≤ far
        · obtain ⟨n, rfl⟩ : ∃ n : Nat, far = (n : Int) := ⟨far.toNat, by omega⟩
          have em : (((ds.filter fun x => decide (x ≤ (n : Int))).length : Nat) : Int) = ((cntO L ks n : Nat) : Int) := by
            rw [← ordO_cnt n two hB, eds]
            unfold nats
            rw [List.filter_map, List.length_map]
            congr 2
            refine List.filter_congr fun x _ => ?_
            show decide ((x : Int) ≤ (n : Int)) = decide (x ≤ n)
            exact decide_eq_decide.mpr (by omega)
          rw [em]
          refine ⟨_, rfl, _, 0, rfl, rfl, _, rfl, ite2 (fun c => ?_) (fun c => absurd (decide_eq_true (show (n : Int) ≥ 0 by omega)) c)⟩
          refine ⟨_, rfl, _, rfl, _, rfl, L, n, p, ks, rfl, SqL.of gp24, hk, fun H25 s25 => ⟨_, rfl, ?_⟩⟩
          refine ⟨_, _, .int ((cntO L ks n : Nat) : Int), rfl, .int _, .int _, rfl, (by show 0 < 4; decide), fun H26 s26 => ⟨_, rfl, iteF ?_⟩⟩
          exact ⟨((s23.trans s2324).trans s25).trans s26, _, _, _, _, rfl⟩
        · refine ⟨_, rfl, _, 0, rfl, rfl, _, rfl, ite2 (fun c => absurd (of_decide_eq_true c) (by omega)) (fun c => ?_)⟩
          exact iteF ⟨s23.trans s2324, _, _, _, _, rfl⟩
      rintro σ H23 ⟨s23, y8, y11, y12, y13, rfl⟩
      have gp23 := s23 _ _ gp22
      have gD23 := s23 _ _ gD22
      have S23 := S22.same s23
      have dpos : 0 < ds.length := by
        cases hds : ds with
        | nil =>
          have e := gl
          rw [eds] at hds
          unfold nats at hds
          rw [List.map_eq_nil_iff.mp hds] at e
          cases e
        | cons y r => exact Nat.succ_pos _
      refine ⟨_, rfl, _, rfl, D, _, rfl, .inl (SqL.of gD23), ?_⟩
      rw [List.length_map]
      refine ⟨l, d, mix, c21, _, rfl, S23, by omega, by omega, small (by omega) (by omega), fun z c24 H24 z0 z1' S24 hc24 k24 => ⟨1, z, rfl, rfl, ?_⟩⟩
      have gp24 := k24 _ _ gp23 npl npd
      have gD24 := k24 _ _ gD23 hDl hDd
      obtain ⟨few, efw⟩ : ∃ few : Nat, 1 + z = (few : Int) := ⟨(1 + z).toNat, by omega⟩
      dsimp only
      rw [efw]
      have f1 : 1 ≤ few := by omega
      have f2 : few ≤ (ordO L ks Bd).length := by omega
      have A24 : Ask K H24 L Bd p ks := ⟨gp24, hk1000, by omega, hB⟩
      refine ⟨_, rfl, _, rfl, _, rfl, L, Bd, few, p, ks, rfl, A24, f1, f2, fun g1 H25 ng1 s25 gg1 => ?_⟩
      rw [← eds] at gg1
      have cutF : cutV (ds.map V.int) none (some (few : Int)) = (ds.take few).map V.int := by
        rw [cut_take _ few (by rw [List.length_map]; omega), List.map_take]
      refine ⟨_, rfl, noPart ⟨_, rfl, (few : Int), rfl, D, _, rfl, SqL.of (s25 _ _ gD24), fun g2 hg2 => ?_⟩⟩
      rw [cutF]
      have gg2 := upd_same (H := H25) (a := g2) (o := .lst ((ds.take few).map V.int))
      have s26 := same_new (o := .lst ((ds.take few).map V.int)) hg2
      generalize upd H25 g2 (.lst ((ds.take few).map V.int)) = H26 at gg2 s26 ⊢
      refine ⟨.list ((ds.take few).map PyData.int), .list ((ds.take few).map PyData.int), .lst (SqL.of (s26 _ _ gg1)) (dp_ints _), .lst (SqL.of gg2) (dp_ints _), shaped_ints _, shaped_ints _, false, ?_, ?_⟩
      · exact congrArg V.bl (by rw [SeqAt.eqv_refl (.list ((ds.take few).map PyData.int)) (lays_ints _)]; rfl)
      have s2426 := s25.trans s26
      refine iteF ?_
      have gp26 := s2426 _ _ gp24
      have gD26 := s2426 _ _ gD24
      have A26 : Ask K H26 L Bd p ks := ⟨gp26, hk1000, by omega, hB⟩
      refine ⟨_, rfl, _, rfl, L, Bd, p, ks, rfl, A26, fun pp rows H27 npp s27 gpp gR => ?_⟩
      rw [← eds] at gR
      have gD27 := s27 _ _ gD26
      refine ⟨_, rfl, D, rfl, ⟨_, SqL.of gD27⟩, fun D2 hD2 => lc_list (xs := ds.map V.int) (fun j H' => Same H27 (wo H' D2) ∧ ∃ as : List Addr, H' D2 = some (.lst (as.map V.ref)) ∧ as.length = j ∧ RowsAt (wo H' D2) as ((ds.take j).map fun x => [x, x]))
        ⟨by rw [wo_upd]; exact same_wo (Same.refl _) hD2, [], upd_same, rfl, trivial⟩ (fun j H' _ hh => SqL.of (wo_same _ _ (hh.1 _ _ gD27))) ?_ ?_⟩
      · rintro j v H' hz ⟨s13, as, g13, la, ra⟩
        obtain ⟨x, hx, rfl⟩ := map_at hz
        have jl : j < ds.length := (List.getElem?_eq_some_iff.mp hx).1
        refine ⟨rfl, _, rfl, _, rfl, w2, fun q hq => ⟨_, same_new hq _ _ g13, by rw [List.length_map]; omega, ?_⟩⟩
        have nq : q ≠ D2 := (ne_of_none g13 hq).symm
        have m13 := wo_mon (D := D2) (same_new (o := .lst [V.int x, V.int x]) hq)
        refine ⟨by rw [wo_upd]; exact s13.trans m13, as ++ [q], by rw [upd_same, List.map_append]; rfl, by rw [List.length_append, la]; rfl, ?_⟩
        rw [wo_upd, List.take_add_one, hx, List.map_append]
        exact (ra.same m13).app ⟨by rw [wo_ne nq, upd_same]; rfl, trivial⟩
      rintro H28 ⟨s28, as, g28, la, ra⟩
      rw [List.length_map, List.take_length] at ra
      have s28' : Same H27 H28 := s28.trans wo_same
      have ra' := ra.same (wo_same (H := H28) (D := D2))
      refine ⟨.list (dRows (ds.map fun x => [x, x])), .list (dRows (ds.map fun x => [x, x])), .lst (SqL.of (s28' _ _ gpp)) (dp_rows (gR.same s28')), .lst (SqL.of g28) (dp_rows ra'), shaped_rows _, shaped_rows _, false, ?_, ?_⟩
      · rw [SeqAt.eqv_refl (.list (dRows (ds.map fun x => [x, x]))) (show PyData.canLay0 (.list (dRows (ds.map fun x => [x, x]))) = true from lay_rows _)]
        rfl
      refine iteF ?_
      have s2628 := s27.trans s28'
      have gp28 := s2628 _ _ gp26
      have gD28 := s2628 _ _ gD26
      have S28 := (S24.same s2426).same s2628
      clear s27 s28 s28' ra ra' gR gpp g28 s25 s26 gg1 gg2
      -- repr again
      refine ⟨_, rfl, _, _, rfl, sh gp28, ?_⟩
      refine ⟨_, rfl, rfl, _, rfl, iteNS rfl ?_⟩
      have cT : ((cntO L ks T : Nat) : Int) = ((ds.length : Nat) : Int) := by
        rw [orgs_cnt two (by rw [eT]; exact Int.le_refl _), dl, hlen]
      refine ⟨_, rfl, _, rfl, _, rfl, rfl, rfl, L, T, p, ks, rfl, SqL.of gp28, hk, fun H29 s29 => ?_⟩
      rw [cT]
      refine ⟨_, rfl, D, _, rfl, .inl (SqL.of (s29 _ _ gD28)), ?_⟩
      rw [List.length_map]
      refine ⟨rfl, _, rfl, iteNS rfl ?_⟩
      refine ⟨_, rfl, l, d, mix, c24, rfl, S28.same s29, by omega, fun c30 H30 S30 hc30 k30 => ⟨_, rfl, iteF ?_⟩⟩
      exact ⟨c30, _, _, _, _, _, _, _, _, _, _, _, _, _, rfl, S30, by omega⟩
    · rintro σ H2 ⟨cnt, y2, y3, y4, y5, y6, y7, y8, y9, y10, y11, y12, y13, y14, rfl, S2, hc2⟩
      refine ⟨w2, fun u hu => ⟨1, 7, u, [3, 2], rfl, SqL.of upd_same, fun k hk => by simp only [List.mem_cons, List.not_mem_nil, or_false] at hk; omega, by decide, by decide, fun H3 s3 f1 hf1 => ?_⟩⟩
      rw [show ordO 1 [3, 2] 7 = [1, 2, 3, 4, 6] by decide +kernel]
      refine ⟨(by show 5 ≤ _; omega), fun u2 hu2 => ?_⟩
      have gf := same_new (o := .lst [.int 1, .int 2, .int 3, .int 4, .int 6]) hu2 f1 _ upd_same
      refine ⟨.list ([1, 2, 3, 4, 6].map PyData.int), .list ([1, 2, 3, 4, 6].map PyData.int), .lst (SqL.of gf) (dp_ints [1, 2, 3, 4, 6]), .lst (SqL.of upd_same) (dp_ints [1, 2, 3, 4, 6]), shaped_ints _, shaped_ints _, true, ?_, ?_⟩
      · exact congrArg V.bl (SeqAt.eqv_refl (.list ([1, 2, 3, 4, 6].map PyData.int)) (lays_ints _))
      refine iteT ⟨(by show 1 ≤ _; omega), fun u3 hu3 => ⟨0, 1, u3, [5], rfl, SqL.of upd_same, fun k hk => by simp only [List.mem_cons, List.not_mem_nil, or_false] at hk; omega, by decide, by decide, fun H4 s4 f2 hf2 => ?_⟩⟩
      rw [show ordO 0 [5] 1 = [0] by decide +kernel]
      refine ⟨(by show 1 ≤ _; omega), fun u4 hu4 => ?_⟩
      have gf2 := same_new (o := .lst [.int 0]) hu4 f2 _ upd_same
      refine ⟨.list ([0].map PyData.int), .list ([0].map PyData.int), .lst (SqL.of gf2) (dp_ints [0]), .lst (SqL.of upd_same) (dp_ints [0]), shaped_ints _, shaped_ints _, ?_⟩
      rw [SeqAt.eqv_refl (.list ([0].map PyData.int)) (lays_ints _)]
      exact q _
end
end Sq
set_option Elab.async false
set_option linter.all false
set_option maxRecDepth 100000
set_option maxHeartbeats 4000000
namespace Sq
open PySem PySem.Spec PyProof.Rows L2
theorem kb_origins {K : PySem.W.Frag} {f : Addr} {fd : FuncData} (F : Fun K "origins" "origins" s_origins f fd) : KBn K fd ["length", "replacements"] 0 ["replacements", "length"] (fun _ zs => zs.reverse) (fun _ zs => zs.reverse) :=
  kbn_mk F _ _ _ (fun _ r => r.reverse) fun _ _ _ _ _ _ ws hl => match ws, hl with | [_, _], _ => rfl
theorem kb_greatestorigin {K : PySem.W.Frag} {f : Addr} {fd : FuncData} (F : Fun K "greatest_origin" "greatest_origin" s_greatestorigin f fd) : KBn K fd ["length", "replacements"] 0 ["replacements", "length"] (fun _ zs => zs.reverse) (fun _ zs => zs.reverse) :=
  kbn_mk F _ _ _ (fun _ r => r.reverse) fun _ _ _ _ _ _ ws hl => match ws, hl with | [_, _], _ => rfl
theorem kb_countorigins {K : PySem.W.Frag} {f : Addr} {fd : FuncData} (F : Fun K "count_origins" "count_origins" s_countorigins f fd) : KBn K fd ["length", "replacements", "last"] 0 ["last", "replacements", "length"] (fun _ zs => zs.reverse) (fun _ zs => zs.reverse) :=
  kbn_mk F _ _ _ (fun _ r => r.reverse) fun _ _ _ _ _ _ ws hl => match ws, hl with | [_, _, _], _ => rfl
end Sq
set_option Elab.async false
set_option linter.all false
set_option maxRecDepth 100000
set_option maxHeartbeats 4000000
namespace Sq
open PySem PySem.Spec PyProof.Rows L2
theorem all_mk {l : PySem.W.OpenLaw} {w : World} {K : PySem.W.Frag} {h : Heap} {mg : Str → Option Value} {fa : Addr} (X : K.In h) (G : h.Ns mainGlobals mg) (hfa : mg "law" = some (.ref fa))
    {f_checklist : Addr} {od_checklist an_checklist : Option Addr} {sl_checklist : Array (Option Value)} {oc_checklist kV_checklist dc_checklist pm_checklist cd_checklist ct_checklist : Value}
    (a_checklist : PySem.W.nsIn K mainGlobals "check_list" = some (some (.ref f_checklist)))
    (l_checklist : K.lookup f_checklist = some ⟨oc_checklist, od_checklist, .func (PySem.W.fnOf "check_list" "check_list" (defArgs s_checklist) (defBody s_checklist) (defScope s_checklist) .none kV_checklist dc_checklist pm_checklist an_checklist cd_checklist ct_checklist), sl_checklist⟩)
    (c_checklist : PySem.W.codeIn K cd_checklist "check_list" = true) (k_checklist : PySem.W.keepIn K (.ref f_checklist) = true)
    {f_checknumber : Addr} {od_checknumber an_checknumber : Option Addr} {sl_checknumber : Array (Option Value)} {oc_checknumber kV_checknumber dc_checknumber pm_checknumber cd_checknumber ct_checknumber : Value}
    (a_checknumber : PySem.W.nsIn K mainGlobals "check_number" = some (some (.ref f_checknumber)))
    (l_checknumber : K.lookup f_checknumber = some ⟨oc_checknumber, od_checknumber, .func (PySem.W.fnOf "check_number" "check_number" (defArgs s_checknumber) (defBody s_checknumber) (defScope s_checknumber) .none kV_checknumber dc_checknumber pm_checknumber an_checknumber cd_checknumber ct_checknumber), sl_checknumber⟩)
    (c_checknumber : PySem.W.codeIn K cd_checknumber "check_number" = true) (k_checknumber : PySem.W.keepIn K (.ref f_checknumber) = true)
    {f_greatestorigin : Addr} {od_greatestorigin an_greatestorigin : Option Addr} {sl_greatestorigin : Array (Option Value)} {oc_greatestorigin kV_greatestorigin dc_greatestorigin pm_greatestorigin cd_greatestorigin ct_greatestorigin : Value}
    (a_greatestorigin : PySem.W.nsIn K mainGlobals "greatest_origin" = some (some (.ref f_greatestorigin)))
    (l_greatestorigin : K.lookup f_greatestorigin = some ⟨oc_greatestorigin, od_greatestorigin, .func (PySem.W.fnOf "greatest_origin" "greatest_origin" (defArgs s_greatestorigin) (defBody s_greatestorigin) (defScope s_greatestorigin) .none kV_greatestorigin dc_greatestorigin pm_greatestorigin an_greatestorigin cd_greatestorigin ct_greatestorigin), sl_greatestorigin⟩)
    (c_greatestorigin : PySem.W.codeIn K cd_greatestorigin "greatest_origin" = true) (k_greatestorigin : PySem.W.keepIn K (.ref f_greatestorigin) = true)
    {f_origins : Addr} {od_origins an_origins : Option Addr} {sl_origins : Array (Option Value)} {oc_origins kV_origins dc_origins pm_origins cd_origins ct_origins : Value}
    (a_origins : PySem.W.nsIn K mainGlobals "origins" = some (some (.ref f_origins)))
    (l_origins : K.lookup f_origins = some ⟨oc_origins, od_origins, .func (PySem.W.fnOf "origins" "origins" (defArgs s_origins) (defBody s_origins) (defScope s_origins) .none kV_origins dc_origins pm_origins an_origins cd_origins ct_origins), sl_origins⟩)
    (c_origins : PySem.W.codeIn K cd_origins "origins" = true) (k_origins : PySem.W.keepIn K (.ref f_origins) = true)
    {f_countorigins : Addr} {od_countorigins an_countorigins : Option Addr} {sl_countorigins : Array (Option Value)} {oc_countorigins kV_countorigins dc_countorigins pm_countorigins cd_countorigins ct_countorigins : Value}
    (a_countorigins : PySem.W.nsIn K mainGlobals "count_origins" = some (some (.ref f_countorigins)))
    (l_countorigins : K.lookup f_countorigins = some ⟨oc_countorigins, od_countorigins, .func (PySem.W.fnOf "count_origins" "count_origins" (defArgs s_countorigins) (defBody s_countorigins) (defScope s_countorigins) .none kV_countorigins dc_countorigins pm_countorigins an_countorigins cd_countorigins ct_countorigins), sl_countorigins⟩)
    (c_countorigins : PySem.W.codeIn K cd_countorigins "count_origins" = true) (k_countorigins : PySem.W.keepIn K (.ref f_countorigins) = true)
    {f_manyforone : Addr} {od_manyforone an_manyforone : Option Addr} {sl_manyforone : Array (Option Value)} {oc_manyforone kV_manyforone dc_manyforone pm_manyforone cd_manyforone ct_manyforone : Value}
    (a_manyforone : PySem.W.nsIn K mainGlobals "many_for_one" = some (some (.ref f_manyforone)))
    (l_manyforone : K.lookup f_manyforone = some ⟨oc_manyforone, od_manyforone, .func (PySem.W.fnOf "many_for_one" "many_for_one" (defArgs s_manyforone) (defBody s_manyforone) (defScope s_manyforone) .none kV_manyforone dc_manyforone pm_manyforone an_manyforone cd_manyforone ct_manyforone), sl_manyforone⟩)
    (c_manyforone : PySem.W.codeIn K cd_manyforone "many_for_one" = true) (k_manyforone : PySem.W.keepIn K (.ref f_manyforone) = true)
    {f_originsforone : Addr} {od_originsforone an_originsforone : Option Addr} {sl_originsforone : Array (Option Value)} {oc_originsforone kV_originsforone dc_originsforone pm_originsforone cd_originsforone ct_originsforone : Value}
    (a_originsforone : PySem.W.nsIn K mainGlobals "origins_for_one" = some (some (.ref f_originsforone)))
    (l_originsforone : K.lookup f_originsforone = some ⟨oc_originsforone, od_originsforone, .func (PySem.W.fnOf "origins_for_one" "origins_for_one" (defArgs s_originsforone) (defBody s_originsforone) (defScope s_originsforone) .none kV_originsforone dc_originsforone pm_originsforone an_originsforone cd_originsforone ct_originsforone), sl_originsforone⟩)
    (c_originsforone : PySem.W.codeIn K cd_originsforone "origins_for_one" = true) (k_originsforone : PySem.W.keepIn K (.ref f_originsforone) = true)
    {f_limitsafter : Addr} {od_limitsafter an_limitsafter : Option Addr} {sl_limitsafter : Array (Option Value)} {oc_limitsafter kV_limitsafter dc_limitsafter pm_limitsafter cd_limitsafter ct_limitsafter : Value}
    (a_limitsafter : PySem.W.nsIn K mainGlobals "limits_after" = some (some (.ref f_limitsafter)))
    (l_limitsafter : K.lookup f_limitsafter = some ⟨oc_limitsafter, od_limitsafter, .func (PySem.W.fnOf "limits_after" "limits_after" (defArgs s_limitsafter) (defBody s_limitsafter) (defScope s_limitsafter) .none kV_limitsafter dc_limitsafter pm_limitsafter an_limitsafter cd_limitsafter ct_limitsafter), sl_limitsafter⟩)
    (c_limitsafter : PySem.W.codeIn K cd_limitsafter "limits_after" = true) (k_limitsafter : PySem.W.keepIn K (.ref f_limitsafter) = true)
    {f_lawsource : Addr} {od_lawsource an_lawsource : Option Addr} {sl_lawsource : Array (Option Value)} {oc_lawsource kV_lawsource dc_lawsource pm_lawsource cd_lawsource ct_lawsource : Value}
    (a_lawsource : PySem.W.nsIn K mainGlobals "_law_source" = some (some (.ref f_lawsource)))
    (l_lawsource : K.lookup f_lawsource = some ⟨oc_lawsource, od_lawsource, .func (PySem.W.fnOf "_law_source" "_law_source" (defArgs s_lawsource) (defBody s_lawsource) (defScope s_lawsource) .none kV_lawsource dc_lawsource pm_lawsource an_lawsource cd_lawsource ct_lawsource), sl_lawsource⟩)
    (c_lawsource : PySem.W.codeIn K cd_lawsource "_law_source" = true) (k_lawsource : PySem.W.keepIn K (.ref f_lawsource) = true)
    {f_lawdraw : Addr} {od_lawdraw an_lawdraw : Option Addr} {sl_lawdraw : Array (Option Value)} {oc_lawdraw kV_lawdraw dc_lawdraw pm_lawdraw cd_lawdraw ct_lawdraw : Value}
    (a_lawdraw : PySem.W.nsIn K mainGlobals "_law_draw" = some (some (.ref f_lawdraw)))
    (l_lawdraw : K.lookup f_lawdraw = some ⟨oc_lawdraw, od_lawdraw, .func (PySem.W.fnOf "_law_draw" "_law_draw" (defArgs s_lawdraw) (defBody s_lawdraw) (defScope s_lawdraw) .none kV_lawdraw dc_lawdraw pm_lawdraw an_lawdraw cd_lawdraw ct_lawdraw), sl_lawdraw⟩)
    (c_lawdraw : PySem.W.codeIn K cd_lawdraw "_law_draw" = true) (k_lawdraw : PySem.W.keepIn K (.ref f_lawdraw) = true)
    {f_lawsame : Addr} {od_lawsame an_lawsame : Option Addr} {sl_lawsame : Array (Option Value)} {oc_lawsame kV_lawsame dc_lawsame pm_lawsame cd_lawsame ct_lawsame : Value}
    (a_lawsame : PySem.W.nsIn K mainGlobals "_law_same" = some (some (.ref f_lawsame)))
    (l_lawsame : K.lookup f_lawsame = some ⟨oc_lawsame, od_lawsame, .func (PySem.W.fnOf "_law_same" "_law_same" (defArgs s_lawsame) (defBody s_lawsame) (defScope s_lawsame) .none kV_lawsame dc_lawsame pm_lawsame an_lawsame cd_lawsame ct_lawsame), sl_lawsame⟩)
    (c_lawsame : PySem.W.codeIn K cd_lawsame "_law_same" = true) (k_lawsame : PySem.W.keepIn K (.ref f_lawsame) = true)
    {f_lawonce : Addr} {od_lawonce an_lawonce : Option Addr} {sl_lawonce : Array (Option Value)} {oc_lawonce kV_lawonce dc_lawonce pm_lawonce cd_lawonce ct_lawonce : Value}
    (a_lawonce : PySem.W.nsIn K mainGlobals "_law_once" = some (some (.ref f_lawonce)))
    (l_lawonce : K.lookup f_lawonce = some ⟨oc_lawonce, od_lawonce, .func (PySem.W.fnOf "_law_once" "_law_once" (defArgs s_lawonce) (defBody s_lawonce) (defScope s_lawonce) .none kV_lawonce dc_lawonce pm_lawonce an_lawonce cd_lawonce ct_lawonce), sl_lawonce⟩)
    (c_lawonce : PySem.W.codeIn K cd_lawonce "_law_once" = true) (k_lawonce : PySem.W.keepIn K (.ref f_lawonce) = true)
    {f_lawsqueezed : Addr} {od_lawsqueezed an_lawsqueezed : Option Addr} {sl_lawsqueezed : Array (Option Value)} {oc_lawsqueezed kV_lawsqueezed dc_lawsqueezed pm_lawsqueezed cd_lawsqueezed ct_lawsqueezed : Value}
    (a_lawsqueezed : PySem.W.nsIn K mainGlobals "_law_squeezed" = some (some (.ref f_lawsqueezed)))
    (l_lawsqueezed : K.lookup f_lawsqueezed = some ⟨oc_lawsqueezed, od_lawsqueezed, .func (PySem.W.fnOf "_law_squeezed" "_law_squeezed" (defArgs s_lawsqueezed) (defBody s_lawsqueezed) (defScope s_lawsqueezed) .none kV_lawsqueezed dc_lawsqueezed pm_lawsqueezed an_lawsqueezed cd_lawsqueezed ct_lawsqueezed), sl_lawsqueezed⟩)
    (c_lawsqueezed : PySem.W.codeIn K cd_lawsqueezed "_law_squeezed" = true) (k_lawsqueezed : PySem.W.keepIn K (.ref f_lawsqueezed) = true)
    {f_lawrow : Addr} {od_lawrow an_lawrow : Option Addr} {sl_lawrow : Array (Option Value)} {oc_lawrow kV_lawrow dc_lawrow pm_lawrow cd_lawrow ct_lawrow : Value}
    (a_lawrow : PySem.W.nsIn K mainGlobals "_law_row" = some (some (.ref f_lawrow)))
    (l_lawrow : K.lookup f_lawrow = some ⟨oc_lawrow, od_lawrow, .func (PySem.W.fnOf "_law_row" "_law_row" (defArgs s_lawrow) (defBody s_lawrow) (defScope s_lawrow) .none kV_lawrow dc_lawrow pm_lawrow an_lawrow cd_lawrow ct_lawrow), sl_lawrow⟩)
    (c_lawrow : PySem.W.codeIn K cd_lawrow "_law_row" = true) (k_lawrow : PySem.W.keepIn K (.ref f_lawrow) = true)
    {f_lawfirst : Addr} {od_lawfirst an_lawfirst : Option Addr} {sl_lawfirst : Array (Option Value)} {oc_lawfirst kV_lawfirst dc_lawfirst pm_lawfirst cd_lawfirst ct_lawfirst : Value}
    (a_lawfirst : PySem.W.nsIn K mainGlobals "_law_first" = some (some (.ref f_lawfirst)))
    (l_lawfirst : K.lookup f_lawfirst = some ⟨oc_lawfirst, od_lawfirst, .func (PySem.W.fnOf "_law_first" "_law_first" (defArgs s_lawfirst) (defBody s_lawfirst) (defScope s_lawfirst) .none kV_lawfirst dc_lawfirst pm_lawfirst an_lawfirst cd_lawfirst ct_lawfirst), sl_lawfirst⟩)
    (c_lawfirst : PySem.W.codeIn K cd_lawfirst "_law_first" = true) (k_lawfirst : PySem.W.keepIn K (.ref f_lawfirst) = true)
    {f_lawpairs : Addr} {od_lawpairs an_lawpairs : Option Addr} {sl_lawpairs : Array (Option Value)} {oc_lawpairs kV_lawpairs dc_lawpairs pm_lawpairs cd_lawpairs ct_lawpairs : Value}
    (a_lawpairs : PySem.W.nsIn K mainGlobals "_law_pairs" = some (some (.ref f_lawpairs)))
    (l_lawpairs : K.lookup f_lawpairs = some ⟨oc_lawpairs, od_lawpairs, .func (PySem.W.fnOf "_law_pairs" "_law_pairs" (defArgs s_lawpairs) (defBody s_lawpairs) (defScope s_lawpairs) .none kV_lawpairs dc_lawpairs pm_lawpairs an_lawpairs cd_lawpairs ct_lawpairs), sl_lawpairs⟩)
    (c_lawpairs : PySem.W.codeIn K cd_lawpairs "_law_pairs" = true) (k_lawpairs : PySem.W.keepIn K (.ref f_lawpairs) = true)
    {f_lawshort : Addr} {od_lawshort an_lawshort : Option Addr} {sl_lawshort : Array (Option Value)} {oc_lawshort kV_lawshort dc_lawshort pm_lawshort cd_lawshort ct_lawshort : Value}
    (a_lawshort : PySem.W.nsIn K mainGlobals "_law_short" = some (some (.ref f_lawshort)))
    (l_lawshort : K.lookup f_lawshort = some ⟨oc_lawshort, od_lawshort, .func (PySem.W.fnOf "_law_short" "_law_short" (defArgs s_lawshort) (defBody s_lawshort) (defScope s_lawshort) .none kV_lawshort dc_lawshort pm_lawshort an_lawshort cd_lawshort ct_lawshort), sl_lawshort⟩)
    (c_lawshort : PySem.W.codeIn K cd_lawshort "_law_short" = true) (k_lawshort : PySem.W.keepIn K (.ref f_lawshort) = true)
    {f_lawbackwards : Addr} {od_lawbackwards an_lawbackwards : Option Addr} {sl_lawbackwards : Array (Option Value)} {oc_lawbackwards kV_lawbackwards dc_lawbackwards pm_lawbackwards cd_lawbackwards ct_lawbackwards : Value}
    (a_lawbackwards : PySem.W.nsIn K mainGlobals "_law_backwards" = some (some (.ref f_lawbackwards)))
    (l_lawbackwards : K.lookup f_lawbackwards = some ⟨oc_lawbackwards, od_lawbackwards, .func (PySem.W.fnOf "_law_backwards" "_law_backwards" (defArgs s_lawbackwards) (defBody s_lawbackwards) (defScope s_lawbackwards) .none kV_lawbackwards dc_lawbackwards pm_lawbackwards an_lawbackwards cd_lawbackwards ct_lawbackwards), sl_lawbackwards⟩)
    (c_lawbackwards : PySem.W.codeIn K cd_lawbackwards "_law_backwards" = true) (k_lawbackwards : PySem.W.keepIn K (.ref f_lawbackwards) = true)
    {f_lawwideright : Addr} {od_lawwideright an_lawwideright : Option Addr} {sl_lawwideright : Array (Option Value)} {oc_lawwideright kV_lawwideright dc_lawwideright pm_lawwideright cd_lawwideright ct_lawwideright : Value}
    (a_lawwideright : PySem.W.nsIn K mainGlobals "_law_wide_right" = some (some (.ref f_lawwideright)))
    (l_lawwideright : K.lookup f_lawwideright = some ⟨oc_lawwideright, od_lawwideright, .func (PySem.W.fnOf "_law_wide_right" "_law_wide_right" (defArgs s_lawwideright) (defBody s_lawwideright) (defScope s_lawwideright) .none kV_lawwideright dc_lawwideright pm_lawwideright an_lawwideright cd_lawwideright ct_lawwideright), sl_lawwideright⟩)
    (c_lawwideright : PySem.W.codeIn K cd_lawwideright "_law_wide_right" = true) (k_lawwideright : PySem.W.keepIn K (.ref f_lawwideright) = true)
    {f_law : Addr} {od_law an_law : Option Addr} {sl_law : Array (Option Value)} {oc_law kV_law dc_law pm_law cd_law ct_law : Value}
    (a_law : PySem.W.nsIn K mainGlobals "law" = some (some (.ref f_law)))
    (l_law : K.lookup f_law = some ⟨oc_law, od_law, .func (PySem.W.fnOf "law" "law" (defArgs s_law) (defBody s_law) (defScope s_law) .none kV_law dc_law pm_law an_law cd_law ct_law), sl_law⟩)
    (c_law : PySem.W.codeIn K cd_law "law" = true) (k_law : PySem.W.keepIn K (.ref f_law) = true)
    (z_len : PySem.W.nsIn K mainGlobals "len" = some none)
    (z_min : PySem.W.nsIn K mainGlobals "min" = some none)
    (z_max : PySem.W.nsIn K mainGlobals "max" = some none)
    (z_abs : PySem.W.nsIn K mainGlobals "abs" = some none)
    (z_range : PySem.W.nsIn K mainGlobals "range" = some none)
    (z_isinstance : PySem.W.nsIn K mainGlobals "isinstance" = some none)
    (z_repr : PySem.W.nsIn K mainGlobals "repr" = some none)
    (z_enumerate : PySem.W.nsIn K mainGlobals "enumerate" = some none)
    (z_reversed : PySem.W.nsIn K mainGlobals "reversed" = some none)
    (z_sorted : PySem.W.nsIn K mainGlobals "sorted" = some none)
    (z_bool : PySem.W.nsIn K mainGlobals "bool" = some none)
    (z_int : PySem.W.nsIn K mainGlobals "int" = some none)
    (z_str : PySem.W.nsIn K mainGlobals "str" = some none)
    (z_list : PySem.W.nsIn K mainGlobals "list" = some none)
    (z_tuple : PySem.W.nsIn K mainGlobals "tuple" = some none)
    (z_set : PySem.W.nsIn K mainGlobals "set" = some none)
    (z_sum : PySem.W.nsIn K mainGlobals "sum" = some none)
    (z_zip : PySem.W.nsIn K mainGlobals "zip" = some none)
    (z_all : PySem.W.nsIn K mainGlobals "all" = some none)
    (z_any : PySem.W.nsIn K mainGlobals "any" = some none)
    (z_ValueError : PySem.W.nsIn K mainGlobals "ValueError" = some none)
    (z_divmod : PySem.W.nsIn K mainGlobals "divmod" = some none)
    : ∃ fd : FuncData, (∀ (s : Shared) (v : Value), BindsTo s fd ⟨[v], []⟩ [("script", v)]) ∧ ∀ base : Heap, K.In base → base.Ns mainGlobals mg → Top l.prog w K mg base 12 fa fd "script" (spLaw K) := by
  have e := hfa.symm.trans (PySem.W.mg_of X G a_law)
  cases e
  have B : Bi mg := ⟨PySem.W.mg_none_of X G z_len, PySem.W.mg_none_of X G z_min, PySem.W.mg_none_of X G z_max, PySem.W.mg_none_of X G z_abs, PySem.W.mg_none_of X G z_range, PySem.W.mg_none_of X G z_isinstance, PySem.W.mg_none_of X G z_repr, PySem.W.mg_none_of X G z_enumerate, PySem.W.mg_none_of X G z_reversed, PySem.W.mg_none_of X G z_sorted, PySem.W.mg_none_of X G z_bool, PySem.W.mg_none_of X G z_int, PySem.W.mg_none_of X G z_str, PySem.W.mg_none_of X G z_list, PySem.W.mg_none_of X G z_tuple, PySem.W.mg_none_of X G z_set, PySem.W.mg_none_of X G z_sum, PySem.W.mg_none_of X G z_zip, PySem.W.mg_none_of X G z_all, PySem.W.mg_none_of X G z_any, PySem.W.mg_none_of X G z_ValueError, PySem.W.mg_none_of X G z_divmod⟩
  have F_checklist := fun_mk (st := s_checklist) l_checklist c_checklist k_checklist
  have b_checklist := F_checklist.binds (ps := ["replacements"]) fun _ _ _ _ _ _ us hl => match us, hl with | [_], _ => rfl
  have g_checklist := PySem.W.mg_of X G a_checklist
  have F_checknumber := fun_mk (st := s_checknumber) l_checknumber c_checknumber k_checknumber
  have b_checknumber := F_checknumber.binds (ps := ["number", "least"]) fun _ _ _ _ _ _ us hl => match us, hl with | [_, _], _ => rfl
  have g_checknumber := PySem.W.mg_of X G a_checknumber
  have F_greatestorigin := fun_mk (st := s_greatestorigin) l_greatestorigin c_greatestorigin k_greatestorigin
  have b_greatestorigin := F_greatestorigin.binds (ps := ["length", "replacements"]) fun _ _ _ _ _ _ us hl => match us, hl with | [_, _], _ => rfl
  have g_greatestorigin := PySem.W.mg_of X G a_greatestorigin
  have F_origins := fun_mk (st := s_origins) l_origins c_origins k_origins
  have b_origins := F_origins.binds (ps := ["length", "replacements"]) fun _ _ _ _ _ _ us hl => match us, hl with | [_, _], _ => rfl
  have g_origins := PySem.W.mg_of X G a_origins
  have F_countorigins := fun_mk (st := s_countorigins) l_countorigins c_countorigins k_countorigins
  have b_countorigins := F_countorigins.binds (ps := ["length", "replacements", "last"]) fun _ _ _ _ _ _ us hl => match us, hl with | [_, _, _], _ => rfl
  have g_countorigins := PySem.W.mg_of X G a_countorigins
  have F_manyforone := fun_mk (st := s_manyforone) l_manyforone c_manyforone k_manyforone
  have b_manyforone := F_manyforone.binds (ps := ["length", "number"]) fun _ _ _ _ _ _ us hl => match us, hl with | [_, _], _ => rfl
  have g_manyforone := PySem.W.mg_of X G a_manyforone
  have F_originsforone := fun_mk (st := s_originsforone) l_originsforone c_originsforone k_originsforone
  have b_originsforone := F_originsforone.binds (ps := ["length", "number"]) fun _ _ _ _ _ _ us hl => match us, hl with | [_, _], _ => rfl
  have g_originsforone := PySem.W.mg_of X G a_originsforone
  have F_limitsafter := fun_mk (st := s_limitsafter) l_limitsafter c_limitsafter k_limitsafter
  have b_limitsafter := F_limitsafter.binds (ps := ["limits", "number"]) fun _ _ _ _ _ _ us hl => match us, hl with | [_, _], _ => rfl
  have g_limitsafter := PySem.W.mg_of X G a_limitsafter
  have F_lawsource := fun_mk (st := s_lawsource) l_lawsource c_lawsource k_lawsource
  have b_lawsource := F_lawsource.binds (ps := ["script"]) fun _ _ _ _ _ _ us hl => match us, hl with | [_], _ => rfl
  have g_lawsource := PySem.W.mg_of X G a_lawsource
  have F_lawdraw := fun_mk (st := s_lawdraw) l_lawdraw c_lawdraw k_lawdraw
  have b_lawdraw := F_lawdraw.binds (ps := ["source", "many"]) fun _ _ _ _ _ _ us hl => match us, hl with | [_, _], _ => rfl
  have g_lawdraw := PySem.W.mg_of X G a_lawdraw
  have F_lawsame := fun_mk (st := s_lawsame) l_lawsame c_lawsame k_lawsame
  have b_lawsame := F_lawsame.binds (ps := ["found", "wanted"]) fun _ _ _ _ _ _ us hl => match us, hl with | [_, _], _ => rfl
  have g_lawsame := PySem.W.mg_of X G a_lawsame
  have F_lawonce := fun_mk (st := s_lawonce) l_lawonce c_lawonce k_lawonce
  have b_lawonce := F_lawonce.binds (ps := ["run", "one"]) fun _ _ _ _ _ _ us hl => match us, hl with | [_, _], _ => rfl
  have g_lawonce := PySem.W.mg_of X G a_lawonce
  have F_lawsqueezed := fun_mk (st := s_lawsqueezed) l_lawsqueezed c_lawsqueezed k_lawsqueezed
  have b_lawsqueezed := F_lawsqueezed.binds (ps := ["run", "row"]) fun _ _ _ _ _ _ us hl => match us, hl with | [_, _], _ => rfl
  have g_lawsqueezed := PySem.W.mg_of X G a_lawsqueezed
  have F_lawrow := fun_mk (st := s_lawrow) l_lawrow c_lawrow k_lawrow
  have b_lawrow := F_lawrow.binds (ps := ["source", "many", "wide"]) fun _ _ _ _ _ _ us hl => match us, hl with | [_, _, _], _ => rfl
  have g_lawrow := PySem.W.mg_of X G a_lawrow
  have F_lawfirst := fun_mk (st := s_lawfirst) l_lawfirst c_lawfirst k_lawfirst
  have b_lawfirst := F_lawfirst.binds (ps := ["goal", "row", "few"]) fun _ _ _ _ _ _ us hl => match us, hl with | [_, _, _], _ => rfl
  have g_lawfirst := PySem.W.mg_of X G a_lawfirst
  have F_lawpairs := fun_mk (st := s_lawpairs) l_lawpairs c_lawpairs k_lawpairs
  have b_lawpairs := F_lawpairs.binds (ps := ["goal", "row"]) fun _ _ _ _ _ _ us hl => match us, hl with | [_, _], _ => rfl
  have g_lawpairs := PySem.W.mg_of X G a_lawpairs
  have F_lawshort := fun_mk (st := s_lawshort) l_lawshort c_lawshort k_lawshort
  have b_lawshort := F_lawshort.binds (ps := ["source", "goal"]) fun _ _ _ _ _ _ us hl => match us, hl with | [_, _], _ => rfl
  have g_lawshort := PySem.W.mg_of X G a_lawshort
  have F_lawbackwards := fun_mk (st := s_lawbackwards) l_lawbackwards c_lawbackwards k_lawbackwards
  have b_lawbackwards := F_lawbackwards.binds (ps := ["goal", "row"]) fun _ _ _ _ _ _ us hl => match us, hl with | [_, _], _ => rfl
  have g_lawbackwards := PySem.W.mg_of X G a_lawbackwards
  have F_lawwideright := fun_mk (st := s_lawwideright) l_lawwideright c_lawwideright k_lawwideright
  have b_lawwideright := F_lawwideright.binds (ps := ["source"]) fun _ _ _ _ _ _ us hl => match us, hl with | [_], _ => rfl
  have g_lawwideright := PySem.W.mg_of X G a_lawwideright
  have F_law := fun_mk (st := s_law) l_law c_law k_law
  exact ⟨_, fun s v => .of_eq rfl, fun base _ _ => by
    have D_checklist : Df l.prog w K mg base 1 "check_list" ["replacements"] (spCheckList K) := .mk' F_checklist (ok_checklist F_checklist B) g_checklist b_checklist
    have D_checknumber : Df l.prog w K mg base 1 "check_number" ["number", "least"] spCheckNumber := .mk' F_checknumber (ok_checknumber F_checknumber) g_checknumber b_checknumber
    have Y_greatestorigin := ok_greatc (P := l.prog) (w := w) (mg := mg) (base := base) F_greatestorigin D_checklist D_checknumber
    have D_greatestorigin : Df l.prog w K mg base 2 "greatest_origin" ["length", "replacements"] (spGreatC K) := .mk' F_greatestorigin Y_greatestorigin g_greatestorigin b_greatestorigin
    have K_greatestorigin : Dk l.prog w K mg base 2 "greatest_origin" ["length", "replacements"] ["replacements", "length"] (fun _ zs => zs.reverse) (spGreatC K) := ⟨f_greatestorigin, _, _, Y_greatestorigin, g_greatestorigin, k_greatestorigin, kb_greatestorigin F_greatestorigin⟩
    have D_limitsafter : Df l.prog w K mg base 1 "limits_after" ["limits", "number"] spLimits := .mk' F_limitsafter (ok_limits F_limitsafter B) g_limitsafter b_limitsafter
    have Y_countorigins := ok_count (P := l.prog) (w := w) (mg := mg) (base := base) F_countorigins B D_checknumber D_checklist D_limitsafter
    have D_countorigins : Df l.prog w K mg base 2 "count_origins" ["length", "replacements", "last"] (spCount K) := .mk' F_countorigins Y_countorigins g_countorigins b_countorigins
    have K_countorigins : Dk l.prog w K mg base 2 "count_origins" ["length", "replacements", "last"] ["last", "replacements", "length"] (fun _ zs => zs.reverse) (spCount K) := ⟨f_countorigins, _, _, Y_countorigins, g_countorigins, k_countorigins, kb_countorigins F_countorigins⟩
    have D_manyforone : Df l.prog w K mg base 1 "many_for_one" ["length", "number"] spMany := .mk' F_manyforone (ok_many F_manyforone B) g_manyforone b_manyforone
    have D_originsforone : Df l.prog w K mg base 2 "origins_for_one" ["length", "number"] spOne := .mk' F_originsforone (ok_one F_originsforone B D_manyforone) g_originsforone b_originsforone
    have Q_checknumber : Dq l.prog w K mg base 1 "check_number" ["number", "least"] spCheckNumber := ⟨⟨_, _, ok_checknumberQ F_checknumber, g_checknumber, k_checknumber, b_checknumber⟩⟩
    have Q_checklist : Dq l.prog w K mg base 1 "check_list" ["replacements"] (spCheckList K) := ⟨⟨_, _, ok_checklistQ F_checklist B, g_checklist, k_checklist, b_checklist⟩⟩
    have Q_manyforone : Dq l.prog w K mg base 1 "many_for_one" ["length", "number"] spMany := ⟨⟨_, _, ok_manyQ F_manyforone B, g_manyforone, k_manyforone, b_manyforone⟩⟩
    have Q_originsforone : Dq l.prog w K mg base 2 "origins_for_one" ["length", "number"] spOne := ⟨⟨_, _, ok_oneQ F_originsforone B Q_manyforone, g_originsforone, k_originsforone, b_originsforone⟩⟩
    have Y_origins := ok_origins (P := l.prog) (w := w) (mg := mg) (base := base) F_origins B D_checknumber D_checklist D_originsforone
    have G_origins : Dg l.prog w K mg base 3 "origins" ["length", "replacements"] (spOrigins K) := ⟨⟨_, _, Y_origins, g_origins, k_origins, b_origins⟩⟩
    have GK_origins : Dgk l.prog w K mg base 3 "origins" ["length", "replacements"] ["replacements", "length"] (fun _ ws => ws.reverse) (fun _ zs => zs.reverse) (spOrigins K) := ⟨⟨_, _, Y_origins, g_origins, k_origins, kb_origins F_origins⟩⟩
    have L_origins : Dl l.prog w K mg base 3 "origins" ["length", "replacements"] (spOriginsL K) := ⟨⟨_, _, ok_originsL F_origins B D_checknumber D_checklist D_originsforone, g_origins, k_origins, b_origins⟩⟩
    have V_origins : DfV l.prog w K mg base 3 "origins" ["length", "replacements"] spOriginsV := ⟨⟨_, _, ok_originsV F_origins B Q_checknumber Q_checklist Q_originsforone, g_origins, k_origins, b_origins⟩⟩
    have D_lawsource : Df l.prog w K mg base 1 "_law_source" ["script"] (spSource K) := .mk' F_lawsource (ok_lawsource F_lawsource B) g_lawsource b_lawsource
    have D_lawdraw : Df l.prog w K mg base 1 "_law_draw" ["source", "many"] spDraw := .mk' F_lawdraw (ok_lawdraw F_lawdraw) g_lawdraw b_lawdraw
    have D_lawrow : Df l.prog w K mg base 2 "_law_row" ["source", "many", "wide"] spRow := .mk' F_lawrow (ok_lawrow F_lawrow B D_lawdraw) g_lawrow b_lawrow
    have D_lawonce : Df l.prog w K mg base 1 "_law_once" ["run", "one"] spOnce := .mk' F_lawonce (ok_lawonce F_lawonce) g_lawonce b_lawonce
    have D_lawsqueezed : Df l.prog w K mg base 2 "_law_squeezed" ["run", "row"] (spSqz K) := .mk' F_lawsqueezed (ok_lawsqueezed F_lawsqueezed D_lawonce) g_lawsqueezed b_lawsqueezed
    have D_lawsame : Df l.prog w K mg base 5 "_law_same" ["found", "wanted"] (spSame K 4) := .mk' F_lawsame (ok_lawsame F_lawsame B g_lawsame b_lawsame 4) g_lawsame b_lawsame
    have D_lawfirst : Df l.prog w K mg base 5 "_law_first" ["goal", "row", "few"] (spFirst K) := .mk' F_lawfirst (ok_first F_lawfirst B L_origins) g_lawfirst b_lawfirst
    have D_lawpairs : Df l.prog w K mg base 5 "_law_pairs" ["goal", "row"] (spPairs K) := .mk' F_lawpairs (ok_pairs F_lawpairs B V_origins) g_lawpairs b_lawpairs
    have D_lawshort : Df l.prog w K mg base 3 "_law_short" ["source", "goal"] spShort := .mk' F_lawshort (ok_short F_lawshort B D_lawdraw D_lawrow) g_lawshort b_lawshort
    have D_lawbackwards : Df l.prog w K mg base 1 "_law_backwards" ["goal", "row"] (spBack K) := .mk' F_lawbackwards (ok_back F_lawbackwards B) g_lawbackwards b_lawbackwards
    have D_lawwideright : Df l.prog w K mg base 8 "_law_wide_right" ["source"] spWide := .mk' F_lawwideright (ok_wide F_lawwideright B D_lawdraw D_lawrow D_lawbackwards D_lawsqueezed G_origins D_greatestorigin D_lawsame) g_lawwideright b_lawwideright
    exact ok_law F_law B D_lawsource D_lawdraw D_lawshort D_lawsqueezed G_origins D_lawsame D_greatestorigin D_countorigins D_lawfirst D_lawpairs D_lawwideright GK_origins K_greatestorigin K_countorigins⟩
end Sq
open PySem PySem.W PyProof.Rows
set_option maxRecDepth 100000 in
set_option maxHeartbeats 0 in
theorem PySem.Challenge.cw_squeezelists_k09_origins_listed_holds : PySem.Challenge.rw_squeezelists_k09_origins_listed.Holds := by
  w_on; o_law; k_head; (case hw => w_witness2)
  k_fill
  refine Sq.walkAt (l := PySem.Challenge.rw_squeezelists_k09_origins_listed) (n := 63) (k := 12) (x := "script") (sp := fun w => Sq.spLaw _) rfl (by decide) rfl (fun w h Y => PySem.W.kIn_of Y) ?F (fun _ _ a ns hl _ hS => ⟨a, ns, rfl, hS, hl, fun _ => rfl⟩)
  case F =>
    intro w mg fa h KX G hmg
    refine' Sq.all_mk KX G hmg ?a_checklist ?l_checklist ?c_checklist ?k_checklist ?a_checknumber ?l_checknumber ?c_checknumber ?k_checknumber ?a_greatestorigin ?l_greatestorigin ?c_greatestorigin ?k_greatestorigin ?a_origins ?l_origins ?c_origins ?k_origins ?a_countorigins ?l_countorigins ?c_countorigins ?k_countorigins ?a_manyforone ?l_manyforone ?c_manyforone ?k_manyforone ?a_originsforone ?l_originsforone ?c_originsforone ?k_originsforone ?a_limitsafter ?l_limitsafter ?c_limitsafter ?k_limitsafter ?a_lawsource ?l_lawsource ?c_lawsource ?k_lawsource ?a_lawdraw ?l_lawdraw ?c_lawdraw ?k_lawdraw ?a_lawsame ?l_lawsame ?c_lawsame ?k_lawsame ?a_lawonce ?l_lawonce ?c_lawonce ?k_lawonce ?a_lawsqueezed ?l_lawsqueezed ?c_lawsqueezed ?k_lawsqueezed ?a_lawrow ?l_lawrow ?c_lawrow ?k_lawrow ?a_lawfirst ?l_lawfirst ?c_lawfirst ?k_lawfirst ?a_lawpairs ?l_lawpairs ?c_lawpairs ?k_lawpairs ?a_lawshort ?l_lawshort ?c_lawshort ?k_lawshort ?a_lawbackwards ?l_lawbackwards ?c_lawbackwards ?k_lawbackwards ?a_lawwideright ?l_lawwideright ?c_lawwideright ?k_lawwideright ?a_law ?l_law ?c_law ?k_law ?z_len ?z_min ?z_max ?z_abs ?z_range ?z_isinstance ?z_repr ?z_enumerate ?z_reversed ?z_sorted ?z_bool ?z_int ?z_str ?z_list ?z_tuple ?z_set ?z_sum ?z_zip ?z_all ?z_any ?z_ValueError ?z_divmod
    (case a_checklist => k_is); (case l_checklist => k_is); (case c_checklist => k_is); (case k_checklist => k_is); (case a_checknumber => k_is); (case l_checknumber => k_is); (case c_checknumber => k_is); (case k_checknumber => k_is); (case a_greatestorigin => k_is); (case l_greatestorigin => k_is); (case c_greatestorigin => k_is); (case k_greatestorigin => k_is); (case a_origins => k_is); (case l_origins => k_is); (case c_origins => k_is); (case k_origins => k_is); (case a_countorigins => k_is); (case l_countorigins => k_is); (case c_countorigins => k_is); (case k_countorigins => k_is); (case a_manyforone => k_is); (case l_manyforone => k_is); (case c_manyforone => k_is); (case k_manyforone => k_is); (case a_originsforone => k_is); (case l_originsforone => k_is); (case c_originsforone => k_is); (case k_originsforone => k_is); (case a_limitsafter => k_is); (case l_limitsafter => k_is); (case c_limitsafter => k_is); (case k_limitsafter => k_is); (case a_lawsource => k_is); (case l_lawsource => k_is); (case c_lawsource => k_is); (case k_lawsource => k_is); (case a_lawdraw => k_is); (case l_lawdraw => k_is); (case c_lawdraw => k_is); (case k_lawdraw => k_is); (case a_lawsame => k_is); (case l_lawsame => k_is); (case c_lawsame => k_is); (case k_lawsame => k_is); (case a_lawonce => k_is); (case l_lawonce => k_is); (case c_lawonce => k_is); (case k_lawonce => k_is); (case a_lawsqueezed => k_is); (case l_lawsqueezed => k_is); (case c_lawsqueezed => k_is); (case k_lawsqueezed => k_is); (case a_lawrow => k_is); (case l_lawrow => k_is); (case c_lawrow => k_is); (case k_lawrow => k_is); (case a_lawfirst => k_is); (case l_lawfirst => k_is); (case c_lawfirst => k_is); (case k_lawfirst => k_is); (case a_lawpairs => k_is); (case l_lawpairs => k_is); (case c_lawpairs => k_is); (case k_lawpairs => k_is); (case a_lawshort => k_is); (case l_lawshort => k_is); (case c_lawshort => k_is); (case k_lawshort => k_is); (case a_lawbackwards => k_is); (case l_lawbackwards => k_is); (case c_lawbackwards => k_is); (case k_lawbackwards => k_is); (case a_lawwideright => k_is); (case l_lawwideright => k_is); (case c_lawwideright => k_is); (case k_lawwideright => k_is); (case a_law => k_is); (case l_law => k_is); (case c_law => k_is); (case k_law => k_is); (case z_len => k_is); (case z_min => k_is); (case z_max => k_is); (case z_abs => k_is); (case z_range => k_is); (case z_isinstance => k_is); (case z_repr => k_is); (case z_enumerate => k_is); (case z_reversed => k_is); (case z_sorted => k_is); (case z_bool => k_is); (case z_int => k_is); (case z_str => k_is); (case z_list => k_is); (case z_tuple => k_is); (case z_set => k_is); (case z_sum => k_is); (case z_zip => k_is); (case z_all => k_is); (case z_any => k_is); (case z_ValueError => k_is); (case z_divmod => k_is)
