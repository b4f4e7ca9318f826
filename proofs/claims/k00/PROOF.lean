import PyProof.Rows.All
import Wide.All
import OpenK.AllK
import Wide.FinOn
import PyProof.ReprRoads
import HandS.Words
import HandS.List
import HandS.Ends
import HandS.IsInst
import PyProof.ReprLen
import HandS.Exc
import HandS.ExcInit
import HandS.ExcOwn
import HandS.ExcValue
import HandS.ExcField
import KE.KExcIs
import KE.KExcInit
import KE.KExcPX
import HandS.ForMost
import HandS.Wide
import HandS.Walk
import PySem.Challenge.RW_crosswebs_k00_words_and_errors
set_option Elab.async false
set_option linter.all false
set_option maxRecDepth 100000
set_option maxHeartbeats 8000000
namespace Xgd
open PySem PySem.Spec PyProof.Rows L2

/-! ### a def that may ask repr: no repr runs around its call -/
structure FnG (P : Program) (w : World) (K : PySem.W.Frag) (mg : Str → Option Value) (base : Heap) (k : Nat) (f : Addr) (fd : FuncData) (ps : List Str) (sp : Sp) : Prop where
  len : ∀ vs H Q E, sp vs H Q E → vs.length = ps.length
  run : ∀ (A : Around) (outer : List Env) (s : Shared) (H : Hp) (args : Args) (us : List Value) (vs : List V) (Q : VK) (E : XK), A.guards = some [] → Room k A →
    Env0 P w K mg base A outer s H → BindsTo s fd args (ps.zip us) → Vals vs us → sp vs H Q E → codeAny (model P w) A (.call (.ref f) args) (CR CX0 outer P w H s Q E) s
section
variable {P : Program} {w : World} {K : PySem.W.Frag} {mg : Str → Option Value} {base : Heap}
theorem FnG.of {k : Nat} {f : Addr} {fd : FuncData} {ps : List Str} {sp : Sp} (F : FnOk P w K mg base CX0 k f fd ps sp) : FnG P w K mg base k f fd ps sp :=
  ⟨F.len, fun A outer s H args us vs Q E _ hr => F.run A outer s H args us vs Q E hr⟩
theorem FnG.up {j k : Nat} {f : Addr} {fd : FuncData} {ps : List Str} {sp : Sp} (F : FnG P w K mg base j f fd ps sp) (h : j ≤ k) : FnG P w K mg base k f fd ps sp :=
  ⟨F.len, fun A outer s H args us vs Q E hg hr => F.run A outer s H args us vs Q E hg (hr.mono h)⟩
/-- a def of the text, by its body -/
theorem FnG.mk' {x qual : Str} {st : Stmt} {f : Addr} {fd : FuncData} {N ps : List Str} {k : Nat} {sp : Sp} (F : Fun K x qual st f fd) (S : FnScope N ps (defScope st)) (len : ∀ vs H Q E, sp vs H Q E → vs.length = ps.length)
    (hbody : ∀ (cdv : Value) (A : Around) (outer : List Env) (s : Shared) (H : Hp) (vs : List V) (Q : VK) (E : XK), A.guards = some [] → Room k (A.deeper (envOfC qual (defScope st) s.heap.objs.size f cdv)) → sp vs H Q E →
      ∃ t, PSs (cxOf CX0 P w K mg base N qual (defScope st) f cdv A outer s H E).nox (defBody st) t ∧ t { nx := fun _ H' => Q .non H', rt := Q } (start N vs) H) : FnG P w K mg base (k + 1) f fd ps sp := by
  obtain ⟨oc, od, kV, doc, pm, an, cdv, ct, osl, rfl, lk, hcd⟩ := F.ex
  refine ⟨len, fun A outer s H args us vs Q E hg hr e0 hb r hsp => ?_⟩
  have hl := len _ _ _ _ hsp
  have KX : K.In s.heap := e0.mod.kin.keeps fun b o e => (e0.bs b o e).1
  have lim : s.heap.NoLimit := e0.mod.nolimit.keeps fun b o e => (e0.bs b o e).1
  have hkind : ∀ y ∈ ps.zip us, (defScope st).names.lookup y.1 = some .local ∨ ((defScope st).names.lookup y.1 = some .cell ∧ ((cellsFrom (s.heap.objs.size + 1) (defScope st).names []).lookup y.1).isSome = true) := by
    rintro ⟨n, v⟩ hy
    exact (S.par n (List.of_mem_zip hy).1).imp id fun q => ⟨q, PySem.W.cellsFrom_some _ _ _ (.inl q)⟩
  refine codeAny_call_function hr.depth (KX _ _ lk) rfl S.co S.gen rfl (PySem.W.codeRec_of KX hcd) (hb _ _ _ _ ?_)
  refine wpAny_newFunctionEnv_cells S.kind hkind fun env he s1 x => ?_
  subst he
  refine ⟨lim.keeps x.toInCall.keep, codeAny_func ?_⟩
  obtain ⟨t, ht0, hq⟩ := hbody cdv A outer s H vs Q E hg (hr.deeper _) hsp
  have ht := ht0.nox
  have I := inv_start (CX := CX0) (E := E) S hr.hd e0 hl r x
  refine wpAny_mono (ht.run [] s1 (start N vs) H _ I hq) (fun fl s' hs => ?_) fun e s' hs => hs
  cases fl with
  | ret u =>
    obtain ⟨v, σ', H', J, rv, q⟩ := hs
    exact ⟨v, H', J.os, J.bare, J.base, J.hok, rv, q⟩
  | next =>
    obtain ⟨σ', H', J, q⟩ := hs
    exact ⟨V.non, H', J.os, J.bare, J.base, J.hok, rfl, q⟩
  | brk =>
    obtain ⟨_, _, _, q⟩ := hs
    exact False.elim q
  | cont =>
    obtain ⟨_, _, _, q⟩ := hs
    exact False.elim q
end
section
variable {X : Cx} {k : Nat} {f : Addr} {fd : FuncData} {ps : List Str} {sp : Sp} {dvs : List V} {ds : List Value} {x : Str} {p pos : Pos} {e : Expr} {es : List Expr} {t : TA}
theorem runG {pins : List (Addr × Obj)} {σ : L2.St} {H : Hp} {s : Shared} {Q : VK} {us : List Value} {vs : List V} (F : FnG X.prog X.w X.K X.mg X.base k f fd ps sp) (hg : X.A.guards = some []) (hr : Room k X.A) (hb : Binds X.K fd ps ds) (hd : Vals dvs ds)
    (I : Inv X pins σ H s) (r : Vals vs us) (h : sp (vs ++ dvs) H Q E0) : wpAny (model X.prog X.w) X.A (call (.ref f) us) (EP X pins σ Q) X.xe s := by
  have r2 := r.append hd
  have hl := r2.length.symm.trans (F.len _ _ _ _ h)
  refine wpAny_call (codeAny_mono (F.run X.A X.stack s H ⟨us, []⟩ _ _ Q _ hg hr I.env0 (hb s us I.kIn hl) r2 h) fun r s' hq => ?_)
  cases r with
  | error e => exact False.elim hq
  | ok fl =>
    cases fl with
    | ret u => exact I.after hq
    | next => exact False.elim hq
    | brk => exact False.elim hq
    | cont => exact False.elim hq
theorem pe_callG (F : FnG X.prog X.w X.K X.mg X.base k f fd ps sp) (hga : X.A.guards = some []) (hr : Room k X.A) (hg : Gl X x) (hm : X.mg x = some (.ref f)) (hk : PySem.W.keepIn X.K (.ref f) = true) (hb : Binds X.K fd ps ds) (hd : Vals dvs ds)
    (ha : PA X (e :: es) t) (hdb : (x == ("__debug__" : Str)) = false := by decide) (he : starEach (e :: es) X.env = (false, eval e X.env) :: starEach es X.env := by rfl) (hpl : (backTo pos (starEach es X.env)).any (·.1) = false := by rfl) :
    PE X (.Call (.Name x p) (e :: es) [] pos) (tCall sp dvs E0 t) := ⟨fun pins s σ H Q I h => by
  refine wpAny_Call_Name_kw (ld_glob I hg hm ?_ hdb)
  exact PySem.W.callWith_K (h₀ := X.base) I.ok.mod.kin hk (thn (ha.run pos pins s σ H _ I h) fun us s1 ⟨vs, H1, I1, r, q⟩ => ⟨I1.kIn, runG F hga hr hb hd I1 r q⟩) he hpl⟩
end

/-! ### the end of a law row for such a def -/
theorem lawG {P : Program} {w : World} {K : PySem.W.Frag} {mg mb : Str → Option Value} {k : Nat} {fa a : Addr} {fd : FuncData} {x : Str} {sp : Sp} {s₁ : Shared} {vs : List Value} {ns : List Int}
    (KX : K.In s₁.heap) (hns : s₁.heap.Ns mainGlobals mg) (hb : s₁.heap.Ns builtinsNs mb) (hbb : ∀ x : Str, x ≠ "__name__" → mb x = bootBuiltins x) (hlim : s₁.heap.NoLimit) (hg : s₁.gens = #[])
    (ha : s₁.heap.get? a = some { cls := .type "list", data := .seq vs.toArray }) (hi : IntsAre vs ns) (hl : ns.length ≤ sizeLine) (hr : Room k callerA)
    (hsy : ∃ mm, s₁.heap.Ns sysModules mm) (F : ∀ base : Heap, K.In base → base.Ns mainGlobals mg → (∃ mm, base.Ns sysModules mm) → FnG P w K mg base k fa fd [x] sp) (hbind : ∀ (s : Shared) (u : Value), BindsTo s fd ⟨[u], []⟩ [(x, u)])
    (hsp : ∀ H : Hp, Only H → SqL K H a (ns.map V.int) → sp [.ref a] H (fun v _ => v = .bl true) fun _ _ _ => False) :
    codeAny (model P w) callerA (.call (.ref fa) ⟨[.ref a], []⟩) (fun r s' => r = .ok (.ret (.bool true)) ∧ OldK s₁.heap s'.heap ∧ s'.os = s₁.os ∧ AllBare s'.gens) s₁ := by
  have rv := vals_ints hi
  have lenV := hi.length
  have core : ∀ H : Hp, Only H → SqL K H a (ns.map V.int) → HOk P w H s₁.heap → (∀ b, H b ≠ none → b = a) → (H a ≠ none → K.lookup a = none) →
      codeAny (model P w) callerA (.call (.ref fa) ⟨[.ref a], []⟩) (fun r s' => r = .ok (.ret (.bool true)) ∧ OldK s₁.heap s'.heap ∧ s'.os = s₁.os ∧ AllBare s'.gens) s₁ := by
    intro H hO hS hok hA hK
    have hid : ∀ {b : Addr} {o : Obj}, s₁.heap.get? b = some o → H b = none → (hidT s₁.heap H).get? b = some o := fun e n => hidT_get e n
    have free_dict : ∀ {b : Addr} {o : Obj} {es : Array DictEntry} {ep : Nat}, s₁.heap.get? b = some o → o.data = .dict es ep → H b = none := by
      intro b o es ep e d
      by_cases q : H b = none
      · exact q
      · have e' := hA b q
        subst e'
        rw [ha] at e
        cases e
        cases d
    have nsK : ∀ {b : Addr} {m : Str → Option Value}, s₁.heap.Ns b m → (hidT s₁.heap H).Ns b m := by
      rintro b m ⟨o, es, ep, e, d, r⟩
      exact ⟨o, es, ep, hid e (free_dict e d), d, r⟩
    have hKb : K.In (hidT s₁.heap H) := by
      intro b o e
      refine hid (KX b o e) ?_
      by_cases q : H b = none
      · exact q
      · have e' := hA b q
        subst e'
        rw [hK q] at e
        cases e
    have hM : Mod K mg (hidT s₁.heap H) := by
      obtain ⟨mc, h1, h2⟩ := hlim
      exact ⟨hKb, nsK hns, ⟨mb, nsK hb, hbb⟩, mc, nsK h1, h2⟩
    have e0 : Env0 P w K mg (hidT s₁.heap H) callerA [] s₁ H := ⟨rfl, hM, fun b o e => of_hidT e, Nat.le_of_eq (hidT_size _ _), trivial, fun b hb => (List.not_mem_nil (show b ∈ ([] : List Addr) from hb)).elim, hok, .of_eq hg⟩
    refine codeAny_mono ((F _ hKb (nsK hns) (hsy.imp fun _ z => nsK z)).run callerA [] s₁ H ⟨[.ref a], []⟩ [.ref a] [.ref a] _ _ rfl hr e0 (hbind s₁ (.ref a)) (.cons rfl .nil) (hsp H hO hS)) fun r s' h => ?_
    cases r with
    | error e => exact False.elim h
    | ok fl =>
      cases fl with
      | ret u =>
        obtain ⟨v, H', os, bare, un, hok', r', q⟩ := h
        have q' : v = .bl true := q
        subst q'
        obtain rfl : u = Value.bool true := r'
        refine ⟨rfl, OldK.of_keep fun b o e => ?_, os, bare⟩
        rcases hO b with q | ⟨ob, xs, z⟩
        · exact un.keep b o e q (fun z => (List.not_mem_nil (show b ∈ ([] : List Addr) from z)).elim) (fun z => (List.not_mem_nil z).elim)
        · obtain ⟨e1, _⟩ := hok b _ z
          obtain ⟨e2, _⟩ := hok' b _ (un.frzs b ob _ z)
          rw [e] at e1
          cases e1
          exact e2
      | next => exact False.elim h
      | brk => exact False.elim h
      | cont => exact False.elim h
  cases hk : K.lookup a with
  | some o =>
    have e := KX a o hk
    rw [ha] at e
    cases e
    exact core (fun _ => none) (fun _ => .inl rfl) (.inr ⟨_, vs.toArray, _, hk, rfl, rfl, rfl, by rw [List.size_toArray, lenV]; exact hl, by simpa using rv⟩) (fun b u z => nomatch (z : (none : Option HO) = some u)) (fun b z => absurd rfl z) fun z => absurd rfl z
  | none =>
    let O : HO := .frz { cls := .type "list", data := .seq vs.toArray } (.lst (ns.map V.int))
    have hO : ∀ b u, (if b = a then some O else none) = some u → b = a ∧ u = O := by
      intro b u z
      by_cases hb : b = a
      · rw [if_pos hb] at z
        exact ⟨hb, (Option.some.inj z).symm⟩
      · rw [if_neg hb] at z
        cases z
    refine core (fun b => if b = a then some O else none) (fun b => ?_) (.inl (.inr ⟨_, if_pos rfl⟩)) (fun b u z => ?_) (fun b z => ?_) fun _ => hk
    · by_cases hb : b = a
      · exact .inr ⟨_, _, if_pos hb⟩
      · exact .inl (if_neg hb)
    · obtain ⟨rfl, rfl⟩ := hO b u z
      exact ⟨ha, by rw [List.length_map]; exact hl, vs, _, rv, ha⟩
    · by_cases hb : b = a
      · exact hb
      · exact absurd (if_neg hb) z
theorem walkG {l : PySem.W.OpenLaw} {n k : Nat} {q : Program} {loose : List Str} {XP : (Str → Option Value) → Heap → Prop} {YP : World → Heap → Prop} {d : DefRec} {K : Params → PySem.W.Frag} {sp : PySem.W.Frag → Sp} {x : Str}
    (hn : l.most = some n) (hn2 : n ≤ sizeLine) (hdf : d.params.defaults = []) (hr : Room k callerA) (him : importsNone q = true)
    (hY : ∀ (w : World) (h : Heap), YP w h → (K w.params).In h)
    (F : ∀ (w : World) (mg : Str → Option Value) (fa : Addr) (h : Heap), (K w.params).In h → h.Ns mainGlobals mg → XP mg h → mg d.name = some (.ref fa) →
      ∃ fd : FuncData, (∀ (s : Shared) (u : Value), BindsTo s fd ⟨[u], []⟩ [(x, u)]) ∧
        ∀ base : Heap, (K w.params).In base → base.Ns mainGlobals mg → (∃ mm, base.Ns sysModules mm) → FnG l.prog w (K w.params) mg base k fa fd [x] (sp (K w.params)))
    (hsp : ∀ (K : PySem.W.Frag) (H : Hp) (a : Addr) (ns : List Int), ns.length ≤ n → Only H → SqL K H a (ns.map V.int) → sp K [.ref a] H (fun v _ => v = .bl true) fun _ _ _ => False) :
    PySem.W.WalkO q loose XP YP l.row.toRowW d [] (fun f vs => PySem.call f vs) := by
  refine Att.attach_call hn hdf fun w s₀ s₁ mg mb fa o pm cd doc a vs ns G Y ho hd hcd hmg hobj hints hlen hg => ?_
  have KX := hY w _ Y
  obtain ⟨fd, hb, hF⟩ := F w mg fa _ KX G.T.g G.X hmg
  have hsy : ∃ mm, s₁.heap.Ns sysModules mm := (G.T.seer him).mods.imp fun _ z => z.1
  exact lawG KX G.T.g G.T.b G.T.builtins G.T.nolimit hg hobj hints (Nat.le_trans hlen hn2) hr hsy hF hb fun H hO hS => hsp (K w.params) H a ns hlen hO hS
end Xgd
namespace Xgd
open PySem PySem.Spec PyProof.Rows L2
/-! ### repr of a list of data at any depth, empty dicts among it -/
mutual
inductive Dq (K : PySem.W.Frag) (H : Hp) : V → PyData → Prop
  | non : Dq K H .non .none
  | bl (b : Bool) : Dq K H (.bl b) (.bool b)
  | int (i : Int) : Dq K H (.int i) (.int i)
  | str (x : Str) : Dq K H (.str x) (.str x)
  | lst {a : Addr} {xs : List V} {ds : List PyData} : SqL K H a xs → DqAll K H xs ds → Dq K H (.ref a) (.list ds)
  | tup {a : Addr} {xs : List V} {ds : List PyData} : SqT K H a xs → DqAll K H xs ds → Dq K H (.ref a) (.tuple ds)
  | dct {a : Addr} : H a = some (.dK []) → Dq K H (.ref a) (.dict [])
inductive DqAll (K : PySem.W.Frag) (H : Hp) : List V → List PyData → Prop
  | nil : DqAll K H [] []
  | cons {v : V} {vs : List V} {d : PyData} {ds : List PyData} : Dq K H v d → DqAll K H vs ds → DqAll K H (v :: vs) (d :: ds)
end
section
variable {X : Cx} {pins : List (Addr × Obj)} {σ : L2.St} {H : Hp} {s : Shared}
mutual
theorem Dq.reads (hm : ∃ mm, X.base.Ns sysModules mm) (I : Inv X pins σ H s) : ∀ (d : PyData) (v : V) (u : Value), Dq X.K H v d → RelV v u → ∃ as, Reads s.heap u d as ∧ sysModules ∉ as
  | .none, _, _, h, r => by
    cases h
    cases r
    exact ⟨_, Reads.none, List.not_mem_nil⟩
  | .bool b, _, _, h, r => by
    cases h
    cases r
    exact ⟨_, Reads.bool b, List.not_mem_nil⟩
  | .int i, _, _, h, r => by
    cases h
    obtain ⟨t, rfl⟩ := r
    exact ⟨_, Reads.int i t, List.not_mem_nil⟩
  | .str x, _, _, h, r => by
    cases h
    obtain ⟨t, rfl⟩ := r
    exact ⟨_, Reads.str x t, List.not_mem_nil⟩
  | .list ds, _, _, h, r => by
    cases h with
    | @lst a xs _ hs ha =>
      cases r
      obtain ⟨its, rv, ⟨o, n, ho, hc, _, hd⟩, _⟩ := I.list hs
      obtain ⟨as, hr, hn⟩ := Dq.readsAll hm I ds _ its ha rv
      refine ⟨_, Reads.list ho hc hd hr, fun q => ?_⟩
      rcases List.mem_cons.mp q with q | q
      · obtain ⟨mm, om, es, ep, e, d, _⟩ := hm
        have e2 := I.bk _ _ e
        rw [q, ho] at e2
        cases e2
        rw [hd] at d
        cases d
      · exact hn q
  | .tuple ds, _, _, h, r => by
    cases h with
    | tup hs ha =>
      cases r
      obtain ⟨its, rv, ⟨o, ho, hc, n, hd⟩, _⟩ := I.tuple hs
      obtain ⟨as, hr, hn⟩ := Dq.readsAll hm I ds _ its ha rv
      exact ⟨_, Reads.tuple ho hc hd hr, hn⟩
  | .dict kvs, _, _, h, r => by
    cases h with
    | @dct a ha =>
      cases r
      obtain ⟨_, hne, vs, rel, hD⟩ := I.hok a _ ha
      cases rel
      obtain ⟨o, es, ep, h1, h2, h3, h4, h5, _⟩ := hD
      have h4' : es.toList = [] := List.eq_nil_of_length_eq_zero (by rw [h5.length]; rfl)
      refine ⟨a :: [] ++ [], Reads.dict h1 h2.1 h3 (by show ReadsAll _ _ [] _; rw [h4']; exact ReadsAll.nil) (by show ReadsAll _ _ [] _; rw [h4']; exact ReadsAll.nil), fun q => ?_⟩
      have q' : sysModules = a := by simpa using q
      rw [q'] at hne
      simp at hne
theorem Dq.readsAll (hm : ∃ mm, X.base.Ns sysModules mm) (I : Inv X pins σ H s) : ∀ (ds : List PyData) (vs : List V) (us : List Value), DqAll X.K H vs ds → Vals vs us → ∃ as, ReadsAll s.heap us ds as ∧ sysModules ∉ as
  | [], _, _, h, r => by
    cases h
    cases r
    exact ⟨_, ReadsAll.nil, List.not_mem_nil⟩
  | d :: ds, _, _, h, r => by
    cases h with
    | cons h1 h2 =>
      cases r with
      | cons r1 r2 =>
        obtain ⟨as, q1, n1⟩ := Dq.reads hm I d _ _ h1 r1
        obtain ⟨bs, q2, n2⟩ := Dq.readsAll hm I ds _ _ h2 r2
        exact ⟨_, ReadsAll.cons q1 q2, fun q => (List.mem_append.mp q).elim n1 n2⟩
end
end
/-- repr(xs), xs a list or another object of data -/
def rReprD (K : PySem.W.Frag) : List V → Hp → VK → Prop := fun xs H Q => ∃ (a : Addr) (d : PyData), xs = [.ref a] ∧ Dq K H (.ref a) d ∧ d.showable = true ∧ d.depth ≤ 30 ∧ d.shown.length ≤ sizeLine ∧ Q (.str d.shown) H
theorem call_reprD {X : Cx} (hg : X.A.guards = some []) (hu : X.A.units + 64 < cLine) (hm : ∃ mm, X.base.Ns sysModules mm) : CallR X (.builtin "repr") (rReprD X.K) := by
  intro pins s σ H xs us Q I r h
  obtain ⟨a, d, rfl, hd, hs, hdp, hz, q⟩ := h
  obtain ⟨u, rfl, ru⟩ := vals1 r
  have ru' : u = .ref a := ru
  subst ru'
  obtain ⟨as, hr, hn⟩ := Dq.reads hm I d _ _ hd rfl
  exact repr_of_reads' hr hs (fun _ => hn) hg (by omega) (fun _ _ e => e) (fun h' u tk hk => ⟨.str d.shown, H, I.kept hk, ⟨_, rfl⟩, q⟩) hz
theorem shown_intW {k : Nat} {i : Int} (h : i.natAbs < 10 ^ k) (hk : 0 < k) : (PyData.shown (.int i)).length ≤ k + 1 := by
  have e := int_text_length_le10 (k := k) hk h
  show (Str.ofString (toString i)).length ≤ k + 1
  rw [PySem.ofString_length]; exact e
end Xgd
namespace Xgd
open PySem PySem.Spec PyProof.Rows L2
/-! ### exceptions of own classes as values -/
/-- what the class at C must say so that isinstance and fields of its objects are asked rightly -/
structure XcC (K : PySem.W.Frag) (C : Addr) : Prop where
  cl : (PySem.W.clsIn K C).isSome = true
  ga : PySem.W.findIn K (.ref C) "__getattribute__" = some (some (.builtin "BaseException.__getattribute__"))
  gg : PySem.W.findIn K (.ref C) "__getattr__" = some none
  sb : PySem.W.subIn K (.ref C) (.type "BaseException") = some true
  ca : PySem.W.findIn K (.ref C) "__class__" = some (some (.builtin "object.__class__"))
  sp : PySem.W.specialIn K (.builtin "object.__class__") "__get__" = some (some (.builtin "getset_descriptor.__get__"))
  tk : PySem.W.takesIn K (.builtin "object.__class__") = some true
  mr : PySem.W.mroIn K C (.type "object") = some true
  hd : PySem.W.hasDictIn K C = true
/-- at a stands an exception of the class at C -/
def IsExc (H : Hp) (a C : Addr) : Prop := H a = some (ExO (.ref C) a) ∨ ∃ (d : Addr) (fs : List (Str × V)), H a = some (exo a C (some d)) ∧ H d = some (exd d fs)
theorem IsExc.same {H H' : Hp} {a C : Addr} (x : IsExc H a C) (s : Same H H') : IsExc H' a C := by
  rcases x with x | ⟨d, fs, x, y⟩
  · exact .inl (s _ _ x)
  · exact .inr ⟨d, fs, s _ _ x, s _ _ y⟩
section
variable {X : Cx} {pins : List (Addr × Obj)} {σ : L2.St} {H : Hp} {s : Shared} {a C : Addr}
theorem inst_exc (I : Inv X pins σ H s) (x : IsExc H a C) : ∃ (oe : Obj) (od : Option Obj), PySem.W.InstAt s.heap a oe C od := by
  rcases x with x | ⟨d, fs, x, y⟩
  · obtain ⟨⟨oe, vs, e, z, hd, _⟩, _⟩ := I.hok a _ x
    exact ⟨oe, none, e, z.1, by unfold PySem.W.notCls; rw [hd] <;> rfl, by rw [z.2]; trivial⟩
  · obtain ⟨t1, e⟩ := exo_at I.hok x
    obtain ⟨mA, hn, _⟩ := exd_at I.hok y
    obtain ⟨od, ho, _⟩ := lookIn_ns hn
    exact ⟨_, some od, e, rfl, rfl, ho⟩
/-- isinstance(e, c), e an exception of an own class, c a class -/
def rIsX (K : PySem.W.Frag) : List V → Hp → VK → Prop := fun xs H Q => ∃ (a C : Addr) (c : V) (cv : Value) (b : Bool), xs = [.ref a, c] ∧ IsExc H a C ∧ XcC K C ∧ ClsV c cv ∧ PySem.W.kitOne K (.ref C) cv = some b ∧ Q (.bl b) H
theorem call_isX : CallR X (.builtin "isinstance") (rIsX X.K) := by
  intro pins s σ H xs us Q I r h
  obtain ⟨a, C, c, cv, b, rfl, hx, T, k, e, q⟩ := h
  obtain ⟨u1, u2, rfl, r1, r2⟩ := vals2 r
  have e2 := k.eq r2
  subst e2
  have e1 : u1 = .ref a := r1
  subst e1
  obtain ⟨oe, od, J⟩ := inst_exc I hx
  exact PySem.W.kia_one (PySem.W.kitx_exc T.cl T.ga T.gg T.sb T.ca T.sp T.tk T.mr) I.kIn J e (fun z => nomatch z) fun tk => ⟨.bl b, H, I.tok tk, rfl, q⟩
/-- e.f, f a field of its own -/
def tXget (K : PySem.W.Frag) (f : Str) (te : TE) : TE := fun σ H Q => te σ H fun x H1 => ∃ (a C d : Addr) (fs : List (Str × V)) (v : V), x = .ref a ∧ H1 a = some (exo a C (some d)) ∧ H1 d = some (exd d fs) ∧ XcC K C ∧ PySem.W.findIn K (.ref C) f = some none ∧ fs.lookup f = some v ∧ Q v H1
theorem pe_xget {e : Expr} {te : TE} {pos : Pos} {n : Str} (he : PE X e te) (hb : attributeBase e n X.env (eval e X.env) = eval e X.env := by rfl) : PE X (.Attribute e n pos) (tXget X.K n te) := by
  refine ⟨fun pins s σ H Q I h => attr_of hb (thn (he.run pins s σ H _ I h) fun u s1 hh => ?_)⟩
  obtain ⟨x, H1, I1, rx, a, C, d, fs, v, rfl, ea, ed, T, no, l, q⟩ := hh
  obtain rfl : u = Value.ref a := rx
  obtain ⟨t1, ho⟩ := exo_at I1.hok ea
  obtain ⟨mA, hn, hr⟩ := exd_at I1.hok ed
  obtain ⟨od, hod, hl⟩ := lookIn_ns hn
  obtain ⟨u, hu, ru⟩ := RelO.some_of (v := v) (o := mA n) (by rw [← l]; exact hr n)
  have J : PySem.W.InstAt s1.heap a _ C (some od) := ⟨ho, rfl, rfl, hod⟩
  exact HandSPX.exc_get I1.kIn J T.ga T.gg T.sb (PySem.W.findObj_own T.hd no rfl (by rw [hl, hu])) (handed_of ru) ⟨v, H1, I1.tok _, ru, q⟩
end

/-! ### an own exception class with an __init__ that stores one field -/
structure ExB (K : PySem.W.Frag) (C : Addr) (bmB : List Value) (newId : String) : Prop where
  q : PySem.W.excInitIn K C bmB newId = true
  ov : PySem.W.excOver K C bmB = true
  hd : PySem.W.hasDictIn K C = true
  sa : PySem.W.findIn K (.ref C) "__setattr__" = some (some (.builtin "object.__setattr__"))
  kC : PySem.W.keepIn K (.ref C) = true
section
variable {X : Cx} {pins : List (Addr × Obj)} {σ : L2.St} {H : Hp} {s : Shared} {a C dx : Addr} {f : Str} {y : V} {u : Value} {B newId initId : String} {bmB : List Value}
theorem ost_B {A : Around} {E : Value → Shared → Prop} {Q : Unit → Shared → Prop} (T : ExB X.K C bmB newId) (SF : StoreFacts B bmB "object.__setattr__" "object") (I : Inv X pins σ H s) (e : H a = some (exo a C none)) (htk : PySem.W.takerIn X.K C f = some none) (ry : RelV y u)
    (h : ∀ dx s', H dx = none → dx ≠ a → Inv X pins σ (upd (upd H dx (exd dx [(f, y)])) a (exo a C (some dx))) s' → Q () s') : wpAny (model X.prog X.w) A (setAttr (.ref a) f u) Q E s := by
  obtain ⟨t1, ho⟩ := exo_at I.hok e
  obtain ⟨hp, g, d, t, os⟩ := s
  obtain ⟨cd, hc, hd'⟩ := PySem.W.any_some T.hd
  refine PySem.W.set_plain I.kIn (ox := PySem.W.excObj C t1 none .none) (od := none) ⟨ho, rfl, rfl, trivial⟩ T.sa ?_
  refine PySem.W.osa_openX (od := none) (ox := PySem.W.excObj C t1 none .none) SF I.kIn ⟨ho, rfl, rfl, trivial⟩ T.ov htk fun b => ?_
  have Lc := PySem.W.looks_clsIn (M := model X.prog X.w) I.kIn hc
  refine wpAny_bind (wpAny_pure (wpAny_bind (PySem.W.instanceDict_exc (s := ⟨hp, g, d, t + 1, os⟩) (t := t1) (c2 := .none) ho Lc hd' ?_)))
  have hxs : a ≠ hp.objs.size := Nat.ne_of_lt (Heap.lt_size ho)
  refine PySem.PX.store_in_new (hp := (hp.push (PySem.W.dictOf [] 0)).update a fun o => { o with dict := some hp.objs.size }) ?_ ?_
  · exact ⟨_, #[], _, (Heap.get?_update_ne _ _ _ _ hxs.symm).trans (Heap.get?_push_at rfl rfl), rfl, fun e he => absurd he (by simp), fun _ => rfl⟩
  intro h' tk' hn' hs
  have hx1 : (hp.push (PySem.W.dictOf [] 0)).get? a = some (PySem.W.excObj C t1 none .none) := Heap.get?_push_of_some _ ho
  have k : ∀ b o, b ≠ a → hp.get? b = some o → h'.get? b = some o := fun b o hb ho' =>
    (hs.2 b (Nat.ne_of_lt (Heap.lt_size ho'))).trans ((Heap.get?_update_ne _ _ _ _ hb).trans (Heap.get?_push_of_some _ ho'))
  have hx : h'.get? a = some (PySem.W.excObj C t1 (some hp.objs.size) .none) := (hs.2 a hxs).trans (Heap.get?_update_self _ hx1 rfl)
  have hnd : H hp.objs.size = none := I.hok.fresh (Nat.le_refl _)
  have nd : ∀ {b : Addr} {o : Obj}, hp.get? b = some o → b ≠ hp.objs.size := fun q => Nat.ne_of_lt (Heap.lt_size q)
  have na : ∀ {b : Addr}, H b = none → b ≠ a := fun n z => by
    rw [z, e] at n
    cases n
  have U : Un X.fs [] H (upd (upd H hp.objs.size (exd hp.objs.size [(f, y)])) a (exo a C (some hp.objs.size))) hp h' := {
    keep := fun b o q n _ _ => k b o (na n) q
    slot := fun b o q n _ _ => ⟨o.slots, k b o (na n) q⟩
    free := fun b o q n _ => by rw [upd_ne (na n), upd_ne (nd q)]; exact n
    there := fun b o q _ => by
      rcases Decidable.em (b = a) with hb | hb
      · subst hb
        exact ⟨_, hx⟩
      · exact ⟨o, k b o hb q⟩
    tups := fun b xs q => by rw [upd_ne (at_ne e q exo_tup), upd_ne (ne_of_none q hnd)]; exact q
    frzs := fun b o v q => by rw [upd_ne (at_ne e q exo_frz), upd_ne (ne_of_none q hnd)]; exact q
    tbls := fun b ps q => ⟨#[], by rw [upd_ne (at_ne e q exo_tbl), upd_ne (ne_of_none q hnd), q]; simp⟩ }
  show Q () (⟨h', g, d, tk', os⟩ : Shared)
  refine h hp.objs.size _ hnd hxs.symm (I.un (t' := tk') U fun b o q => ?_)
  by_cases hb : b = a
  · subst hb
    rw [upd_same] at q
    cases q
    exact exo_ok hx
  · rw [upd_ne hb] at q
    by_cases hd : b = hp.objs.size
    · subst hd
      rw [upd_same] at q
      cases q
      exact exd_ok hn' (relO_put (fs := []) ry fun g => True.intro)
    · rw [upd_ne hd] at q
      refine (I.hok b o q).stay (fun c v hc z => k c v ?_ z) (fun c hc => ?_) fun c xs hc => ?_
      · rcases hc with hc | hc
        · rw [hc]
          exact hb
        · exact at_ne e hc exo_own
      · rw [upd_ne (at_ne e hc exo_own), upd_ne (ne_of_none hc hnd)]
        exact hc
      · rw [upd_ne (at_ne e hc exo_tup), upd_ne (ne_of_none hc hnd)]
        exact hc
/-- self.f = e in such an __init__ -/
def tOsB (K : PySem.W.Frag) (bmB : List Value) (newId : String) (f : Str) (to te : TE) : TS := fun D σ H => te σ H fun y H1 => to σ H1 fun x H2 => ∃ a C : Addr, x = .ref a ∧ ExB K C bmB newId ∧ PySem.W.takerIn K C f = some none ∧
  H2 a = some (exo a C none) ∧ ∀ dx, H2 dx = none → dx ≠ a → D.nx σ (upd (upd H2 dx (exd dx [(f, y)])) a (exo a C (some dx)))
theorem ps_osB {o e : Expr} {to te : TE} {p' pos : Pos} (SF : StoreFacts B bmB "object.__setattr__" "object") (ho : PE X o to) (he : PE X e te) (hs : swapsWith e (some (.Attribute o f p')) pos.line X.env = pure false := by rfl) :
    PS X (.Assign [.Attribute o f p'] e pos) (tOsB X.K bmB newId f to te) := by
  refine ⟨fun pins s σ H D I h => ?_⟩
  refine plainObj_wpAny_Assign_Attribute (thn (he.run pins s σ H _ I h) fun v s1 ⟨y, H1, I1, r1, q1⟩ => thn (ho.run pins s1 σ H1 _ I1 q1) fun u s2 ⟨x, H2, I2, r2, a, C, ex, T, hno, ea, q⟩ => ?_) hs
  subst ex
  obtain rfl : u = Value.ref a := r2
  exact ost_B T SF I2 ea hno r1 fun dx s' n ne J => ⟨σ, _, J, q dx n ne⟩
/-- C(e, ..): a new exception, then its __init__ -/
def tMkX (C : Addr) (sp : Sp) (ta : TA) : TE := fun σ H Q => ta σ H fun vs H1 => vs.length ≤ 1000 ∧ ∀ a, H1 a = none → sp (.ref a :: vs) (upd H1 a (exo a C none)) (fun v H2 => v = .non ∧ Q (.ref a) H2) E0
theorem pe_mkX {x : Str} {fI : Addr} {k : Nat} {fd : FuncData} {ps : List Str} {sp : Sp} {e : Expr} {es : List Expr} {ta : TA} {p pos : Pos} (T : ExB X.K C bmB newId) (F : ExcBaseFacts B newId initId bmB)
    (iC : PySem.W.findIn X.K (.ref C) "__init__" = some (some (.ref fI))) (tI : PySem.W.typeIn X.K (.ref fI) = some (.type "function"))
    (F1 : FnOk X.prog X.w X.K X.mg X.base CX0 k fI fd ps sp) (hr : Room (k + 1) X.A) (hb : Binds X.K fd ps []) (hg : Gl X x) (hm : X.mg x = some (.ref C)) (ha : PA X (e :: es) ta)
    (hdb : (x == ("__debug__" : Str)) = false := by decide) (he : starEach (e :: es) X.env = (false, eval e X.env) :: starEach es X.env := by rfl) (hpl : (backTo pos (starEach es X.env)).any (·.1) = false := by rfl) :
    PE X (.Call (.Name x p) (e :: es) [] pos) (tMkX C sp ta) := by
  refine ⟨fun pins s σ H Q I h => ?_⟩
  refine wpAny_Call_Name_kw (ld_glob I hg hm ?_ hdb)
  refine PySem.W.callWith_K (h₀ := X.base) I.ok.mod.kin T.kC (thn (ha.run pos pins s σ H _ I h) fun us s1 ⟨vs, H1, I1, r1, hz, q1⟩ => ⟨I1.kIn, ?_⟩) he hpl
  show wpAny _ _ (call (.ref C) us) _ _ _
  obtain ⟨nm, N', qn, bs, bm, hdct, sn, sub, ab, col, dd, k0, k1, k2, k3, k5, hC, hT⟩ := PySem.W.excInit_of I1.kIn T.q
  obtain ⟨hp, g, dr, tk, os⟩ := s1
  have hsz : hp.objs.size ≤ hp.objs.size + 1 := Nat.le_succ _
  have hn : H1 (hp.objs.size + 1) = none := I1.hok.fresh hsz
  have hq := q1 (hp.objs.size + 1) hn
  have kk : ∀ b o, hp.get? b = some o → ((hp.push (PySem.W.kdv_tup us)).push (PySem.HandSPX.excO C hp.objs.size)).get? b = some o := fun b o e => Heap.get?_push_of_some _ (Heap.get?_push_of_some _ e)
  have hget : ((hp.push (PySem.W.kdv_tup us)).push (PySem.HandSPX.excO C hp.objs.size)).get? (hp.objs.size + 1) = some (PySem.HandSPX.excO C hp.objs.size) := by heap_get
  have I2 := I1.laid (t' := tk) (a := hp.objs.size + 1) (o := exo (hp.objs.size + 1) C none) (h' := (hp.push (PySem.W.kdv_tup us)).push (PySem.HandSPX.excO C hp.objs.size)) kk hsz (exo_ok hget)
  have r2 : Vals (V.ref (hp.objs.size + 1) :: vs) (Value.ref (hp.objs.size + 1) :: us) := .cons rfl r1
  have hl := r2.length.symm.trans (F1.len _ _ _ _ hq)
  have hus : us.length ≤ sizeLine := by
    rw [← Paired.length r1, sizeLine_eq]
    omega
  have hbb := hb _ (Value.ref (hp.objs.size + 1) :: us) I2.kIn (by rw [List.append_nil]; exact hl)
  rw [List.append_nil] at hbb
  refine wpAny_call (PySem.HandSPX.call_own F hT hC (PySem.W.looks_findIn I1.kIn iC) (fun self => PySem.W.bind_fn I1.kIn self tI) hus
    (codeAny_mono (F1.run _ X.stack _ _ ⟨Value.ref (hp.objs.size + 1) :: us, []⟩ _ _ _ E0 (hr.make C us []) (I2.env0.make C us []) hbb r2 hq) fun r s' hq' => ?_))
  cases r with
  | error er => exact False.elim hq'
  | ok fl =>
    cases fl with
    | ret u =>
      obtain ⟨v, H', I3, rv, ev, q3⟩ := I2.after hq'
      subst ev
      exact ⟨rv, ⟨V.ref (hp.objs.size + 1), H', I3, rfl, q3⟩⟩
    | next => exact False.elim hq'
    | brk => exact False.elim hq'
    | cont => exact False.elim hq'
end
end Xgd
namespace Xgd
open PySem PySem.Spec PyProof.Rows L2
def top (i : Nat) : Stmt := PySem.Challenge.pw_crosswebs_k00_words_and_errors.main.body.getD i (.Pass ⟨0, 0, 0, 0⟩)
abbrev sIsInt : Stmt := top 25
abbrev sIsCnt : Stmt := top 26
abbrev sAre : Stmt := top 27
abbrev sDice : Stmt := top 29
abbrev sRoll : Stmt := top 30
abbrev sPick : Stmt := top 31
abbrev sIsNum : Stmt := top 32
abbrev sAreNum : Stmt := top 33
abbrev sVals : Stmt := top 34
abbrev sWords : Stmt := top 35
abbrev sRaised : Stmt := top 36
abbrev sPlain : Stmt := top 37
abbrev sCaught : Stmt := top 38
abbrev sErr : Stmt := top 39
abbrev sLaw : Stmt := top 40

/-! ### types of data -/
def tyN : PyData → String
  | .none => "NoneType"
  | .bool _ => "bool"
  | .int _ => "int"
  | .str _ => "str"
  | .list _ => "list"
  | .tuple _ => "tuple"
  | .dict _ => "dict"
theorem dq_ty {K : PySem.W.Frag} {H : Hp} {v : V} {d : PyData} (h : Dq K H v d) : TyX K H v (.type (tyN d)) := by
  cases h with
  | non => exact .base .non
  | bl b => exact .base (.bl b)
  | int i => exact .base (.int i)
  | str x => exact .base (.str x)
  | lst hs _ =>
    rcases hs with (hs | ⟨o, hs⟩) | ⟨o, its, n, hk, hc, _⟩
    · exact .base (.lst hs)
    · exact .base (.frz hs)
    · exact .kList hk hc
  | tup hs _ =>
    rcases hs with (hs | ⟨o, hs⟩) | ⟨o, its, n, hk, hc, _⟩
    · exact .base (.tup hs)
    · exact .fTuple hs
    · exact .kTuple hk hc
  | dct h => exact .base (.dK h)
def intLike : PyData → Bool
  | .int _ => true
  | .bool _ => true
  | _ => false
def isBoolD : PyData → Bool
  | .bool _ => true
  | _ => false
def isTupD : PyData → Bool
  | .tuple _ => true
  | _ => false
theorem kit_int (K : PySem.W.Frag) (d : PyData) : PySem.W.kitOne K (.type (tyN d)) (.type "int") = some (intLike d) :=
  match d with
  | .none => kit_ty (a := "NoneType") (b := "int") (r := false) (by decide +kernel)
  | .bool _ => kit_ty (a := "bool") (b := "int") (r := true) (by decide +kernel)
  | .int _ => kit_ty (a := "int") (b := "int") (r := true) (by decide +kernel)
  | .str _ => kit_ty (a := "str") (b := "int") (r := false) (by decide +kernel)
  | .list _ => kit_ty (a := "list") (b := "int") (r := false) (by decide +kernel)
  | .tuple _ => kit_ty (a := "tuple") (b := "int") (r := false) (by decide +kernel)
  | .dict _ => kit_ty (a := "dict") (b := "int") (r := false) (by decide +kernel)
theorem kit_bool (K : PySem.W.Frag) (d : PyData) : PySem.W.kitOne K (.type (tyN d)) (.type "bool") = some (isBoolD d) :=
  match d with
  | .none => kit_ty (a := "NoneType") (b := "bool") (r := false) (by decide +kernel)
  | .bool _ => kit_ty (a := "bool") (b := "bool") (r := true) (by decide +kernel)
  | .int _ => kit_ty (a := "int") (b := "bool") (r := false) (by decide +kernel)
  | .str _ => kit_ty (a := "str") (b := "bool") (r := false) (by decide +kernel)
  | .list _ => kit_ty (a := "list") (b := "bool") (r := false) (by decide +kernel)
  | .tuple _ => kit_ty (a := "tuple") (b := "bool") (r := false) (by decide +kernel)
  | .dict _ => kit_ty (a := "dict") (b := "bool") (r := false) (by decide +kernel)
theorem kit_tup (K : PySem.W.Frag) (d : PyData) : PySem.W.kitOne K (.type (tyN d)) (.type "tuple") = some (isTupD d) :=
  match d with
  | .none => kit_ty (a := "NoneType") (b := "tuple") (r := false) (by decide +kernel)
  | .bool _ => kit_ty (a := "bool") (b := "tuple") (r := false) (by decide +kernel)
  | .int _ => kit_ty (a := "int") (b := "tuple") (r := false) (by decide +kernel)
  | .str _ => kit_ty (a := "str") (b := "tuple") (r := false) (by decide +kernel)
  | .list _ => kit_ty (a := "list") (b := "tuple") (r := false) (by decide +kernel)
  | .tuple _ => kit_ty (a := "tuple") (b := "tuple") (r := true) (by decide +kernel)
  | .dict _ => kit_ty (a := "dict") (b := "tuple") (r := false) (by decide +kernel)
/-- an integer of at most sixty digits -/
def numD : PyData → Bool
  | .int i => decide (i.natAbs < 10 ^ 60)
  | _ => false
def cntD : PyData → Bool
  | .int i => decide (i.natAbs < 10 ^ 60) && decide (0 ≤ i)
  | _ => false
def cntsD : PyData → Bool
  | .tuple ds => ds.all cntD
  | _ => false
theorem abs_lt (i : Int) : decide ((if i < 0 then -i else i) < (1000000000000000000000000000000000000000000000000000000000000 : Int)) = decide (i.natAbs < 10 ^ 60) := by
  rw [show (10 : Nat) ^ 60 = 1000000000000000000000000000000000000000000000000000000000000 by decide]
  by_cases h : i.natAbs < 1000000000000000000000000000000000000000000000000000000000000
  · rw [decide_eq_true h]
    apply decide_eq_true
    split <;> omega
  · rw [decide_eq_false h]
    apply decide_eq_false
    split <;> omega

/-! ### what the text's names are -/
structure TxA (mg : Str → Option Value) : Prop where
  isi : mg "isinstance" = none
  int : mg "int" = none
  bool : mg "bool" = none
  tup : mg "tuple" = none
  abs : mg "abs" = none
  all : mg "all" = none
  len : mg "len" = none
  max : mg "max" = none
  min : mg "min" = none
  range : mg "range" = none
  repr : mg "repr" = none
  enum : mg "enumerate" = none
  long : ∃ t, mg "_TOO_LONG" = some (.int 1000000000000000000000000000000000000000000000000000000000000 t)
  fig : ∃ t, mg "MAX_FIGURES" = some (.int 60 t)
/-- one value, told by its data: the answer b of it -/
def sp1 (K : PySem.W.Frag) (b : PyData → Bool) : Sp := fun vs H Q _ => ∃ (v : V) (d : PyData), vs = [v] ∧ Dq K H v d ∧ Q (.bl (b d)) H
theorem sp1_len {K : PySem.W.Frag} {b : PyData → Bool} {x : Str} : ∀ vs H Q E, sp1 K b vs H Q E → vs.length = [x].length := by
  rintro vs H Q E ⟨v, d, rfl, _⟩
  rfl
section
variable {P : Program} {w : World} {K : PySem.W.Frag} {mg : Str → Option Value} {base : Heap}
theorem scI : FnScope ["value"] ["value"] (defScope sIsInt) := ⟨rfl, rfl, rfl, by decide +kernel, rfl, by decide +kernel, by decide +kernel⟩
theorem numD_true {d : PyData} (h1 : intLike d = true) (h2 : isBoolD d = false) : ∃ i, d = .int i := by
  cases d with
  | int i => exact ⟨i, rfl⟩
  | bool b => cases h2
  | _ => cases h1
theorem numD_false1 {d : PyData} (h1 : intLike d = false) : numD d = false := by
  cases d <;> first | rfl | cases h1
theorem numD_false2 {d : PyData} (h1 : isBoolD d = true) : numD d = false := by
  cases d <;> first | rfl | cases h1
theorem ok_isint {f : Addr} {fd : FuncData} (F : Fun K "is_integer" "is_integer" sIsInt f fd) (T : TxA mg) : FnOk P w K mg base CX0 1 f fd ["value"] (sp1 K numD) := by
  refine F.ok scI sp1_len (fun cdv A outer s H vs Q E hr h => ?_)
  obtain ⟨v, d, rfl, hd, k⟩ := h
  obtain ⟨t, hlong⟩ := T.long
  refine ⟨_, pss_one (ps_ret (pe_and (pe_callB call_isi (by rfl) T.isi boot_isinstance (pa_cons (pv 0) (pa_cons (pe_bltn (v := .ty "int") (by rfl) T.int (by decide +kernel) rfl) pa_nil)))
    (pe_and (pe_not (pe_callB call_isi (by rfl) T.isi boot_isinstance (pa_cons (pv 0) (pa_cons (pe_bltn (v := .ty "bool") (by rfl) T.bool (by decide +kernel) rfl) pa_nil))))
      (pe_one (pe_cmpR op_lt (pe_callB call_abs (by rfl) T.abs boot_abs (pa_cons (pv 0) pa_nil)) (pe_glob (v := .int 1000000000000000000000000000000000000000000000000000000000000) (by rfl) hlong ⟨_, rfl⟩) (nomark _)))))), ?_⟩
  refine ⟨_, rfl, v, .ty "int", _, _, intLike d, rfl, .ty "int", dq_ty hd, kit_int K d, intLike d, rfl, ?_⟩
  cases h1 : intLike d with
  | false =>
    rw [numD_false1 h1] at k
    exact iteF k
  | true =>
    refine iteT ⟨_, rfl, v, .ty "bool", _, _, isBoolD d, rfl, .ty "bool", dq_ty hd, kit_bool K d, isBoolD d, rfl, _, rfl, ?_⟩
    cases h2 : isBoolD d with
    | true =>
      rw [numD_false2 h2] at k
      exact iteF k
    | false =>
      obtain ⟨i, rfl⟩ := numD_true h1 h2
      cases hd
      refine iteT ⟨_, rfl, i, rfl, _, _, rfl, rfl, ?_⟩
      show Q (.bl (decide _)) H
      rw [abs_lt]
      exact k
end
end Xgd
namespace Xgd
open PySem PySem.Spec PyProof.Rows L2
theorem Same.new {H : Hp} {a : Addr} {o : HO} (h : H a = none) : Same H (upd H a o) := fun b u e => by rw [upd_ne (ne_of_none e h)]; exact e
theorem Same.seqT {K : PySem.W.Frag} {H H' : Hp} {a : Addr} {xs : List V} (e : Same H H') (h : SqT K H a xs) : SqT K H' a xs := by
  rcases h with (h | ⟨o, h⟩) | h
  · exact .inl (.inl (e _ _ h))
  · exact .inl (.inr ⟨o, e _ _ h⟩)
  · exact .inr h
mutual
theorem Dq.mono {K : PySem.W.Frag} {H H' : Hp} (s : Same H H') : ∀ (d : PyData) (v : V), Dq K H v d → Dq K H' v d
  | .none, _, h => by cases h; exact .non
  | .bool b, _, h => by cases h; exact .bl b
  | .int i, _, h => by cases h; exact .int i
  | .str x, _, h => by cases h; exact .str x
  | .list ds, _, h => by
    cases h with
    | lst a b => exact .lst (s.seq a) (DqAll.mono s ds _ b)
  | .tuple ds, _, h => by
    cases h with
    | tup a b => exact .tup (Same.seqT s a) (DqAll.mono s ds _ b)
  | .dict kvs, _, h => by
    cases h with
    | dct a => exact .dct (s _ _ a)
theorem DqAll.mono {K : PySem.W.Frag} {H H' : Hp} (s : Same H H') : ∀ (ds : List PyData) (vs : List V), DqAll K H vs ds → DqAll K H' vs ds
  | [], _, h => by cases h; exact .nil
  | d :: ds, _, h => by
    cases h with
    | cons a b => exact .cons (Dq.mono s d _ a) (DqAll.mono s ds _ b)
end
mutual
theorem Dq.dp {K : PySem.W.Frag} {H : Hp} : ∀ (d : PyData) (v : V), Dq K H v d → d.canLay0 = true → Dp K H v d
  | .none, _, h, _ => by cases h; exact .non
  | .bool b, _, h, _ => by cases h; exact .bl b
  | .int i, _, h, _ => by cases h; exact .int i
  | .str x, _, h, _ => by cases h; exact .str x
  | .list ds, _, h, c => by
    cases h with
    | lst a b => exact .lst a (DqAll.dp ds _ b (by simpa only [PyData.canLay0] using c))
  | .tuple ds, _, h, c => by
    cases h with
    | tup a b => exact .tup a (DqAll.dp ds _ b (by simpa only [PyData.canLay0] using c))
  | .dict kvs, _, h, c => by simp only [PyData.canLay0] at c; exact nomatch c
theorem DqAll.dp {K : PySem.W.Frag} {H : Hp} : ∀ (ds : List PyData) (vs : List V), DqAll K H vs ds → PyData.canLayAll0 ds = true → DpAll K H vs ds
  | [], _, h, _ => by cases h; exact .nil
  | d :: ds, _, h, c => by
    have c' : d.canLay0 = true ∧ PyData.canLayAll0 ds = true := by simpa only [PyData.canLayAll0, Bool.and_eq_true] using c
    cases h with
    | cons a b => exact .cons (Dq.dp d _ a c'.1) (DqAll.dp ds _ b c'.2)
end
theorem DqAll.length {K : PySem.W.Frag} {H : Hp} : ∀ {ds : List PyData} {vs : List V}, DqAll K H vs ds → vs.length = ds.length
  | [], _, h => by cases h; rfl
  | d :: ds, _, h => by
    cases h with
    | cons a b => simp [DqAll.length b]
theorem DqAll.get {K : PySem.W.Frag} {H : Hp} : ∀ {ds : List PyData} {vs : List V} {i : Nat} {x : V}, DqAll K H vs ds → vs[i]? = some x → ∃ d, ds[i]? = some d ∧ Dq K H x d
  | _, _, _, _, .nil, e => by simp at e
  | _, _, 0, _, .cons a b, e => by
    simp at e
    subst e
    exact ⟨_, rfl, a⟩
  | _, _, i + 1, x, .cons a b, e => by
    obtain ⟨d, h1, h2⟩ := DqAll.get (i := i) (x := x) b (by simpa using e)
    exact ⟨d, by simpa using h1, h2⟩
theorem DqAll.snoc {K : PySem.W.Frag} {H : Hp} {v : V} {d : PyData} (h : Dq K H v d) : ∀ {ds : List PyData} {vs : List V}, DqAll K H vs ds → DqAll K H (vs ++ [v]) (ds ++ [d])
  | _, _, .nil => .cons h .nil
  | _, _, .cons a b => .cons a (DqAll.snoc h b)
theorem DqAll.append {K : PySem.W.Frag} {H : Hp} : ∀ {ds es : List PyData} {vs ws : List V}, DqAll K H vs ds → DqAll K H ws es → DqAll K H (vs ++ ws) (ds ++ es)
  | _, _, _, _, .nil, h => h
  | _, _, _, _, .cons a b, h => .cons a (DqAll.append b h)
theorem take_snoc {α : Type} {l : List α} {i : Nat} {x : α} (h : l[i]? = some x) : l.take (i + 1) = l.take i ++ [x] := by
  rw [List.take_add_one, h]
  rfl
/-- data that may be compared -/
def fitD (d : PyData) : Bool := d.canLay0 && decide (d.depth ≤ 20)
theorem canLayAll_of : ∀ {ds : List PyData}, (∀ d ∈ ds, fitD d = true) → PyData.canLayAll0 ds = true ∧ PyData.depthAll ds ≤ 20
  | [], _ => ⟨rfl, Nat.zero_le _⟩
  | d :: ds, h => by
    have h1 := h d List.mem_cons_self
    obtain ⟨h2, h3⟩ := canLayAll_of (ds := ds) fun e he => h e (List.mem_cons_of_mem _ he)
    obtain ⟨a, b⟩ := Bool.and_eq_true_iff.mp h1
    have b := of_decide_eq_true b
    refine ⟨by simp only [PyData.canLayAll0, a, h2]; rfl, ?_⟩
    simp only [PyData.depthAll]
    omega
theorem shaped_list {ds : List PyData} (h : ∀ d ∈ ds, fitD d = true) : SeqAt.shaped (.list ds) = true := by
  obtain ⟨h1, h2⟩ := canLayAll_of h
  refine Bool.and_eq_true_iff.mpr ⟨by simpa only [PyData.canLay0] using h1, decide_eq_true ?_⟩
  simp only [PyData.depth]
  omega
theorem eqv_nil (ds : List PyData) : PyData.eqv (.list ds) (.list []) = ds.isEmpty := by
  cases ds with
  | nil => rfl
  | cons d ds => rfl
theorem all_filter (ds : List PyData) : (ds.filter fun d => !cntD d).isEmpty = ds.all cntD := by
  induction ds with
  | nil => rfl
  | cons d ds ih =>
    cases h : cntD d with
    | true =>
      rw [List.filter_cons_of_neg (by simp [h]), List.all_cons, h, ih]
      rfl
    | false =>
      rw [List.filter_cons_of_pos (by simp [h]), List.all_cons, h]
      rfl
/-- data whose items, if it is a tuple, may be compared -/
def tupFit : PyData → Bool
  | .tuple ds => ds.all fitD && decide (ds.length ≤ 100)
  | _ => true
/-- as sp1, where new objects may stand behind the call -/
def sp1S (K : PySem.W.Frag) (b : PyData → Bool) : Sp := fun vs H Q _ => ∃ (v : V) (d : PyData), vs = [v] ∧ Dq K H v d ∧ tupFit d = true ∧ ∀ H', Same H H' → Q (.bl (b d)) H'
theorem sp1S_len {K : PySem.W.Frag} {b : PyData → Bool} {x : Str} : ∀ vs H Q E, sp1S K b vs H Q E → vs.length = [x].length := by
  rintro vs H Q E ⟨v, d, rfl, _⟩
  rfl
/-- a def of the text, as all callers need it -/
structure Df (K : PySem.W.Frag) (mg : Str → Option Value) (x : Str) (ps : List Str) (f : Addr) (fd : FuncData) : Prop where
  mg : mg x = some (.ref f)
  kp : PySem.W.keepIn K (.ref f) = true
  b : Binds K fd ps []
section
variable {P : Program} {w : World} {K : PySem.W.Frag} {mg : Str → Option Value} {base : Heap}
theorem cnt_false {d : PyData} (h : numD d = false) : cntD d = false := by
  cases d with
  | int i =>
    show (decide (i.natAbs < 10 ^ 60) && decide (0 ≤ i)) = false
    have h' : decide (i.natAbs < 10 ^ 60) = false := h
    rw [h']
    rfl
  | _ => rfl
theorem num_int {d : PyData} (h : numD d = true) : ∃ i, d = .int i ∧ cntD d = decide (0 ≤ i) := by
  cases d with
  | int i =>
    have h' : decide (i.natAbs < 10 ^ 60) = true := h
    refine ⟨i, rfl, ?_⟩
    show (decide (i.natAbs < 10 ^ 60) && decide (0 ≤ i)) = _
    rw [h']
    rfl
  | _ => cases h
theorem scC : FnScope ["value"] ["value"] (defScope sIsCnt) := ⟨rfl, rfl, rfl, by decide +kernel, rfl, by decide +kernel, by decide +kernel⟩
theorem ok_iscnt {f fI : Addr} {fd fdI : FuncData} (F : Fun K "is_count" "is_count" sIsCnt f fd) (G : FnOk P w K mg base CX0 1 fI fdI ["value"] (sp1 K numD)) (D : Df K mg "is_integer" ["value"] fI fdI) :
    FnOk P w K mg base CX0 2 f fd ["value"] (sp1 K cntD) := by
  refine F.ok scC sp1_len (fun cdv A outer s H vs Q E hr h => ?_)
  obtain ⟨v, d, rfl, hd, k⟩ := h
  refine ⟨_, pss_one (ps_ret (pe_and (pe_call G hr (by rfl) D.mg D.kp D.b .nil pass0 (pa_cons (pv 0) pa_nil)) (pe_one (pe_cmpR op_ge (pv 0) pe_int (nomark _))))), ?_⟩
  refine ⟨_, rfl, v, d, rfl, hd, numD d, rfl, ?_⟩
  cases h1 : numD d with
  | false =>
    rw [cnt_false h1] at k
    exact iteF k
  | true =>
    obtain ⟨i, rfl, e⟩ := num_int h1
    cases hd
    rw [e] at k
    exact iteT ⟨_, rfl, i, 0, rfl, rfl, k⟩
theorem scN : FnScope ["_law_value"] ["_law_value"] (defScope sIsNum) := ⟨rfl, rfl, rfl, by decide +kernel, rfl, by decide +kernel, by decide +kernel⟩
theorem pow60 : ((10 : Int) ^ (60 : Int).toNat) = 1000000000000000000000000000000000000000000000000000000000000 := by decide
theorem ok_isnum {f : Addr} {fd : FuncData} (F : Fun K "_law_is_number" "_law_is_number" sIsNum f fd) (T : TxA mg) : FnOk P w K mg base CX0 1 f fd ["_law_value"] (sp1 K numD) := by
  refine F.ok scN sp1_len (fun cdv A outer s H vs Q E hr h => ?_)
  obtain ⟨v, d, rfl, hd, k⟩ := h
  refine ⟨_, pss_one (ps_ret (pe_and (pe_callB call_isi (by rfl) T.isi boot_isinstance (pa_cons (pv 0) (pa_cons (pe_bltn (v := .ty "int") (by rfl) T.int (by decide +kernel) rfl) pa_nil)))
    (pe_and (pe_not (pe_callB call_isi (by rfl) T.isi boot_isinstance (pa_cons (pv 0) (pa_cons (pe_bltn (v := .ty "bool") (by rfl) T.bool (by decide +kernel) rfl) pa_nil))))
      (pe_one (pe_cmpR op_lt (pe_callB call_abs (by rfl) T.abs boot_abs (pa_cons (pv 0) pa_nil)) (pe_op op_pow pe_int pe_int) (nomark _)))))), ?_⟩
  refine ⟨_, rfl, v, .ty "int", _, _, intLike d, rfl, .ty "int", dq_ty hd, kit_int K d, intLike d, rfl, ?_⟩
  cases h1 : intLike d with
  | false =>
    rw [numD_false1 h1] at k
    exact iteF k
  | true =>
    refine iteT ⟨_, rfl, v, .ty "bool", _, _, isBoolD d, rfl, .ty "bool", dq_ty hd, kit_bool K d, isBoolD d, rfl, _, rfl, ?_⟩
    cases h2 : isBoolD d with
    | true =>
      rw [numD_false2 h2] at k
      exact iteF k
    | false =>
      obtain ⟨i, rfl⟩ := numD_true h1 h2
      cases hd
      refine iteT ⟨_, rfl, i, rfl, _, _, rfl, rfl, ⟨by decide, by decide, by decide⟩, _, _, rfl, rfl, ?_⟩
      show Q (.bl (decide _)) H
      rw [pow60, abs_lt]
      exact k
theorem scA : FnScope ["value", "part"] ["value"] (defScope sAre) := ⟨rfl, rfl, rfl, by decide +kernel, rfl, by decide +kernel, by decide +kernel⟩
theorem cnts_false {d : PyData} (h : isTupD d = false) : cntsD d = false := by
  cases d with
  | tuple ds => cases h
  | _ => rfl
theorem tup_of {d : PyData} (h : isTupD d = true) : ∃ ds, d = .tuple ds := by
  cases d with
  | tuple ds => exact ⟨ds, rfl⟩
  | _ => cases h
theorem ok_are {f fC : Addr} {fd fdC : FuncData} (F : Fun K "are_counts" "are_counts" sAre f fd) (T : TxA mg) (G : FnOk P w K mg base CX0 2 fC fdC ["value"] (sp1 K cntD)) (D : Df K mg "is_count" ["value"] fC fdC) :
    FnOk P w K mg base CX0 3 f fd ["value"] (sp1S K cntsD) := by
  refine F.ok scA sp1S_len (fun cdv A outer s H vs Q E hr h => ?_)
  obtain ⟨v, d, rfl, hd, hf, k⟩ := h
  refine ⟨_, pss_one (ps_ret (pe_and (pe_callB call_isi (by rfl) T.isi boot_isinstance (pa_cons (pv 0) (pa_cons (pe_bltn (v := .ty "tuple") (by rfl) T.tup (by decide +kernel) rfl) pa_nil)))
    (pe_one (pe_callB (cr_all rfl) (by rfl) T.all boot_all (pa_cons (pe_lc (own := [("part", 1)]) (g := gName 1) (tt := tYes) rfl scA.nd (pi_tup (pv 0)) (blkOk_by (N := ["value", "part"]) (sc := defScope sAre) (by decide +kernel))
      (fun _ _ _ _ _ => pg_name (i := 1) scA.nd rfl (Or.inl rfl)) (fun _ _ _ _ _ => pts_nil) (fun _ _ _ _ _ => pe_call G hr (by rfl) D.mg D.kp D.b .nil pass0 (pa_cons (pv 1) pa_nil))) pa_nil))))), ?_⟩
  refine ⟨_, rfl, v, .ty "tuple", _, _, isTupD d, rfl, .ty "tuple", dq_ty hd, kit_tup K d, isTupD d, rfl, ?_⟩
  cases h1 : isTupD d with
  | false =>
    rw [cnts_false h1] at k
    exact iteF (k H (Same.refl H))
  | true =>
    obtain ⟨ds, rfl⟩ := tup_of h1
    cases hd with
    | @tup a xs _ hs hall =>
      refine iteT ⟨_, rfl, a, rfl, ⟨_, hs⟩, fun L hL => lc_tup (K := K) (a := a) (xs := xs) (fun i H' => H' = upd H L (.lst ((ds.take i).map fun d => V.bl (cntD d)))) (by rw [List.take_zero]; rfl) (fun i H' _ e => by rw [e]; exact Same.seqT (Same.new hL) hs) ?_ ?_⟩
      · rintro i x H' hx rfl
        obtain ⟨d, hd, hq⟩ := hall.get hx
        refine ⟨rfl, _, rfl, x, d, rfl, Dq.mono (Same.new hL) d x hq, _, upd_same, ?_, ?_⟩
        · have hz : ds.length ≤ 100 := of_decide_eq_true (Bool.and_eq_true_iff.mp hf).2
          refine small1000 ?_
          rw [List.length_map, List.length_take]
          omega
        · rw [upd_upd, take_snoc hd, List.map_append]
          rfl
      · rintro H' rfl
        refine ⟨L, ds.map cntD, rfl, SqL.of (by rw [upd_same, List.map_map, show ds.take xs.length = ds by rw [hall.length]; exact List.take_length]; rfl), ?_⟩
        have e : ((ds.map cntD).all id) = cntsD (.tuple ds) := by
          show _ = ds.all cntD
          rw [List.all_map]
          rfl
        rw [e]
        exact k _ (Same.new hL)
theorem scB : FnScope ["_law_value", "_law_one"] ["_law_value"] (defScope sAreNum) := ⟨rfl, rfl, rfl, by decide +kernel, rfl, by decide +kernel, by decide +kernel⟩
theorem cnt_cases (d : PyData) : (numD d = false ∧ cntD d = false) ∨ (∃ i, d = .int i ∧ numD d = true ∧ cntD d = decide (0 ≤ i)) := by
  cases h : numD d with
  | false => exact .inl ⟨rfl, cnt_false h⟩
  | true =>
    obtain ⟨i, e, e2⟩ := num_int h
    exact .inr ⟨i, e, rfl, e2⟩
theorem ok_arenum {f fC : Addr} {fd fdC : FuncData} (F : Fun K "_law_are_numbers" "_law_are_numbers" sAreNum f fd) (T : TxA mg) (G : FnOk P w K mg base CX0 1 fC fdC ["_law_value"] (sp1 K numD)) (D : Df K mg "_law_is_number" ["_law_value"] fC fdC) :
    FnOk P w K mg base CX0 2 f fd ["_law_value"] (sp1S K cntsD) := by
  refine F.ok scB sp1S_len (fun cdv A outer s H vs Q E hr h => ?_)
  obtain ⟨v, d, rfl, hd, hf, k⟩ := h
  refine ⟨_, pss_cons (ps_if (pt_not (pt_val (pe_callB call_isi (by rfl) T.isi boot_isinstance (pa_cons (pv 0) (pa_cons (pe_bltn (v := .ty "tuple") (by rfl) T.tup (by decide +kernel) rfl) pa_nil))))) (pss_one (ps_ret pe_bl)) pss_nil)
    (pss_one (ps_ret (pe_cmpR (op_eqD hr.units) (pe_lc (own := [("_law_one", 1)]) (g := gName 1) rfl scB.nd (pi_tup (pv 0)) (blkOk_by (N := ["_law_value", "_law_one"]) (sc := defScope sAreNum) (by decide +kernel))
      (fun _ _ _ _ _ => pg_name (i := 1) scB.nd rfl (Or.inl rfl)) (fun _ _ _ _ _ => pts_one (PW.pt (pw_or (pt_not (pt_val (pe_call G (hr.mono (by decide)) (by rfl) D.mg D.kp D.b .nil pass0 (pa_cons (pv 1) pa_nil)))) (pw_or1 (pt_cmpR op_lt (pv 1) pe_int (nomark _))))))
      (fun _ _ _ _ _ => pv 1)) (pe_lst pa_nil) (nomark _)))), ?_⟩
  refine ⟨_, rfl, v, .ty "tuple", _, _, isTupD d, rfl, .ty "tuple", dq_ty hd, kit_tup K d, isTupD d, rfl, ?_⟩
  cases h1 : isTupD d with
  | false =>
    rw [cnts_false h1] at k
    exact iteT (k H (Same.refl H))
  | true =>
    obtain ⟨ds, rfl⟩ := tup_of h1
    obtain ⟨hfit, hlen⟩ := Bool.and_eq_true_iff.mp hf
    have hlen := of_decide_eq_true hlen
    have hfit : ∀ d ∈ ds, fitD d = true := List.all_eq_true.mp hfit
    cases hd with
    | @tup a xs _ hs hall =>
      refine iteF ⟨_, rfl, a, rfl, ⟨_, hs⟩, fun L hL => lc_tup (K := K) (a := a) (xs := xs) (fun i H' => ∃ acc, H' = upd H L (.lst acc) ∧ DqAll K H acc ((ds.take i).filter fun d => !cntD d)) ⟨[], rfl, .nil⟩ (fun i H' _ ⟨_, e, _⟩ => by rw [e]; exact Same.seqT (Same.new hL) hs) ?_ ?_⟩
      · rintro i x H' hx ⟨acc, rfl, hacc⟩
        obtain ⟨d, hd, hq⟩ := hall.get hx
        have hsz : acc.length < sizeLine := by
          refine small1000 ?_
          rw [hacc.length]
          have := List.length_filter_le (fun d => !cntD d) (ds.take i)
          rw [List.length_take] at this
          omega
        have keep : cntD d = false → DqAll K H (acc ++ [x]) ((ds.take (i + 1)).filter fun d => !cntD d) := fun e => by
          rw [take_snoc hd, List.filter_append, List.filter_cons_of_pos (by simp [e])]
          exact DqAll.snoc hq hacc
        have drop : cntD d = true → DqAll K H acc ((ds.take (i + 1)).filter fun d => !cntD d) := fun e => by
          rw [take_snoc hd, List.filter_append, List.filter_cons_of_neg (by simp [e]), List.filter_nil, List.append_nil]
          exact hacc
        refine ⟨rfl, _, rfl, x, d, rfl, Dq.mono (Same.new hL) d x hq, _, rfl, ?_⟩
        rcases cnt_cases d with ⟨e1, e2⟩ | ⟨j, rfl, e1, e2⟩
        · rw [e1]
          exact iteT (iteT ⟨_, rfl, acc, upd_same, hsz, acc ++ [x], upd_upd, keep e2⟩)
        · rw [e1]
          cases hq
          refine iteF ⟨_, rfl, j, 0, rfl, rfl, _, rfl, ?_⟩
          by_cases hj : j < 0
          · rw [decide_eq_true hj]
            exact iteT ⟨_, rfl, acc, upd_same, hsz, acc ++ [.int j], upd_upd, keep (by rw [e2]; exact decide_eq_false (by omega))⟩
          · rw [decide_eq_false hj]
            exact iteF ⟨acc, rfl, drop (by rw [e2]; exact decide_eq_true (by omega))⟩
      · rintro H' ⟨acc, rfl, hacc⟩
        rw [hall.length, List.take_length] at hacc
        refine ⟨by show 0 ≤ sizeLine; exact Nat.zero_le _, fun p hp => ?_⟩
        have hLp : L ≠ p := ne_of_none upd_same hp
        have hacc2 := DqAll.mono ((Same.new hL).trans (Same.new (o := .lst []) hp)) _ _ hacc
        have hmem : ∀ d ∈ ds.filter fun d => !cntD d, fitD d = true := fun d hd => hfit d (List.mem_filter.mp hd).1
        refine ⟨.list (ds.filter fun d => !cntD d), .list [], .lst (SqL.of (by rw [upd_ne hLp]; exact upd_same)) (DqAll.dp _ _ hacc2 (canLayAll_of hmem).1), .lst (SqL.of upd_same) .nil, shaped_list hmem, by decide, ?_⟩
        rw [eqv_nil, all_filter]
        exact k _ ((Same.new hL).trans (Same.new hp))
end
end Xgd
namespace Xgd
open PySem PySem.Spec PyProof.Rows L2
/-! ### the dice -/
def diceO (l sd n : Int) : HO := .lst [.int l, .int sd, .int n]
/-- as H, but for the dice at p -/
def Roll (p : Addr) (H H' : Hp) : Prop := ∃ l sd n, H' = upd H p (diceO l sd n)
def DiceAt (H : Hp) (p : Addr) : Prop := ∃ l sd n, H p = some (diceO l sd n)
def spDice (K : PySem.W.Frag) : Sp := fun vs H Q _ => ∃ (a : Addr) (ns : List Int) (k : Nat), vs = [.ref a, .int k] ∧ SqL K H a (ns.map V.int) ∧ k < 1000 ∧ ∀ l sd n p, H p = none → Q (.ref p) (upd H p (diceO l sd n))
def spRoll : Sp := fun vs H Q _ => ∃ (p : Addr) (t l sd n : Int), vs = [.ref p, .int t] ∧ H p = some (diceO l sd n) ∧ 0 < t ∧ t ≤ 10 ^ 40 ∧ ∀ r l' n', 0 ≤ r → r < t → Q (.int r) (upd H p (diceO l' sd n'))
def spPick : Sp := fun vs H Q _ => ∃ (p L : Addr) (xs : List V) (l sd n : Int), vs = [.ref p, .ref L] ∧ H p = some (diceO l sd n) ∧ H L = some (.lst xs) ∧ p ≠ L ∧ 0 < xs.length ∧ xs.length ≤ 1000 ∧
  ∀ (i : Nat) x l' n', xs[i]? = some x → Q x (upd H p (diceO l' sd n'))
theorem modb (x : Int) : -(2 ^ 64) < x % 2305843009213693613 ∧ x % 2305843009213693613 < 2 ^ 64 := by
  have h1 := Int.emod_nonneg x (show (2305843009213693613 : Int) ≠ 0 by decide)
  have h2 := Int.emod_lt_of_pos x (show (0 : Int) < 2305843009213693613 by decide)
  have e : (2 : Int) ^ 64 = 18446744073709551616 := by decide
  omega
section
variable {P : Program} {w : World} {K : PySem.W.Frag} {mg : Str → Option Value} {base : Heap}
theorem scD : FnScope ["_law_script", "_law_spot", "_law_cell", "_law_left"] ["_law_script", "_law_spot"] (defScope sDice) := ⟨rfl, rfl, rfl, by decide +kernel, rfl, by decide +kernel, by decide +kernel⟩
theorem ok_dice {f : Addr} {fd : FuncData} (F : Fun K "_law_dice" "_law_dice" sDice f fd) (T : TxA mg) : FnOk P w K mg base CX0 1 f fd ["_law_script", "_law_spot"] (spDice K) := by
  refine F.ok scD (fun vs H Q E h => ?_) (fun cdv A outer s H vs Q E hr h => ?_)
  · obtain ⟨a, ns, k, rfl, _⟩ := h
    rfl
  · obtain ⟨a, ns, k, rfl, hs, hk, q⟩ := h
    refine ⟨_, pss_cons (ps_set (i := 2) scD.nd rfl (Or.inl rfl) (pe_ifExp (pt_cmpR op_lt (pv 1) (pe_callB call_len_seq (by rfl) T.len PySem.boot_len (pa_cons (pv 0) pa_nil)) (nomark _))
        (pe_callTy call_int1 (by rfl) T.int (by decide +kernel) (pa_cons (pe_ix ix_list (pv 0) (pv 1) (fun _ _ => rfl)) pa_nil))
        (pe_op op_add (pe_op op_mul pe_int (pv 1)) pe_int)))
      (pss_cons (ps_set (i := 3) scD.nd rfl (Or.inl rfl) (pe_op op_mod (pe_callB (call_max2 rfl) (by rfl) T.max boot_max (pa_cons pe_int (pa_cons (pe_op op_sub (pe_callB call_abs (by rfl) T.abs boot_abs (pa_cons (pv 2) pa_nil)) (pe_op op_pow pe_int pe_int)) pa_nil)))
        (pe_op op_mulW (pe_op op_pow pe_int pe_int) (pe_op op_pow pe_int pe_int))))
      (pss_one (ps_ret (pe_lst (pa_cons (pv 3) (pa_cons (pe_op op_add (pe_op op_add (pe_op op_add (pe_op op_mul (pe_op op_mod (pe_callB call_abs (by rfl) T.abs boot_abs (pa_cons (pv 2) pa_nil)) pe_int) pe_int) (pe_op op_mul pe_int (pv 1)))
        (pe_op op_mul pe_int (pe_callTy call_int1 (by rfl) T.int (by decide +kernel) (pa_cons (pe_cmpR op_lt (pv 2) pe_int (nomark _)) pa_nil)))) pe_int) (pa_cons pe_int pa_nil))))))), ?_⟩
    refine ⟨_, rfl, _, rfl, a, _, rfl, .inl hs, _, _, rfl, rfl, _, rfl, ite2 (fun hlt => ?_) (fun _ => ?_)⟩
    · have hlt' : k < ns.length := by
        have := of_decide_eq_true hlt
        rw [List.length_map] at this
        omega
      refine ⟨_, rfl, _, rfl, a, _, _, .int ns[k], rfl, rfl, hs, at_of (j := k) (v := V.int ns[k]) rfl (by rw [List.getElem?_map, List.getElem?_eq_getElem hlt']; rfl), .inl ⟨_, rfl, ?_⟩⟩
      refine ⟨_, rfl, _, rfl, _, _, rfl, rfl, ⟨by decide, by decide, by decide⟩, _, _, rfl, rfl, _, _, rfl, _, _, rfl, rfl, ⟨by decide, by decide, by decide⟩, _, _, rfl, rfl, ⟨by decide, by decide, by decide⟩, _, _, rfl, rfl,
        wide_mul (a := 200) (b := 200) (by decide) (by decide) (by decide) (by decide) (by decide), _, _, rfl, rfl, (by show (0 : Int) < 10 ^ Int.toNat 60 * 10 ^ Int.toNat 60; decide), _, rfl, _, rfl, _, rfl, _, _, rfl, rfl, (by show (0 : Int) < 1152921504606846817; decide), _, _, rfl, rfl, .inr ⟨by decide, by decide⟩, _, rfl, _, _, rfl, rfl, .inl ⟨by decide, by decide⟩, _, _, rfl, rfl,
        _, rfl, _, _, rfl, rfl, .inr ⟨_, rfl, _, _, rfl, rfl, .inl ⟨by decide, by decide⟩, _, _, rfl, rfl, _, _, rfl, rfl, by show 3 ≤ sizeLine; decide, fun p hp => q _ _ _ p hp⟩⟩
    · refine ⟨_, rfl, _, _, rfl, rfl, .inl ⟨by decide, by decide⟩, _, _, rfl, rfl, ?_⟩
      refine ⟨_, rfl, _, rfl, _, _, rfl, rfl, ⟨by decide, by decide, by decide⟩, _, _, rfl, rfl, _, _, rfl, _, _, rfl, rfl, ⟨by decide, by decide, by decide⟩, _, _, rfl, rfl, ⟨by decide, by decide, by decide⟩, _, _, rfl, rfl,
        wide_mul (a := 200) (b := 200) (by decide) (by decide) (by decide) (by decide) (by decide), _, _, rfl, rfl, (by show (0 : Int) < 10 ^ Int.toNat 60 * 10 ^ Int.toNat 60; decide), _, rfl, _, rfl, _, rfl, _, _, rfl, rfl, (by show (0 : Int) < 1152921504606846817; decide), _, _, rfl, rfl, .inr ⟨by decide, by decide⟩, _, rfl, _, _, rfl, rfl, .inl ⟨by decide, by decide⟩, _, _, rfl, rfl,
        _, rfl, _, _, rfl, rfl, .inr ⟨_, rfl, _, _, rfl, rfl, .inl ⟨by decide, by decide⟩, _, _, rfl, rfl, _, _, rfl, rfl, by show 3 ≤ sizeLine; decide, fun p hp => q _ _ _ p hp⟩⟩
theorem scR : FnScope ["_law_dice_here", "_law_total", "_law_found", "_law_one", "_law_two"] ["_law_dice_here", "_law_total"] (defScope sRoll) := ⟨rfl, rfl, rfl, by decide +kernel, rfl, by decide +kernel, by decide +kernel⟩
theorem ok_roll {f : Addr} {fd : FuncData} (F : Fun K "_law_roll" "_law_roll" sRoll f fd) (T : TxA mg) : FnOk P w K mg base CX0 1 f fd ["_law_dice_here", "_law_total"] spRoll := by
  refine F.ok scR (fun vs H Q E h => ?_) (fun cdv A outer s H vs Q E hr h => ?_)
  · obtain ⟨p, t, l, sd, n, rfl, _⟩ := h
    rfl
  · obtain ⟨p, t, l, sd, n, rfl, hp, ht, ht2, q⟩ := h
    have hp : H p = some (.lst [.int l, .int sd, .int n]) := hp
    have tw : t.natAbs < 2 ^ 200 := by
      have : (10 : Int) ^ 40 = 10000000000000000000000000000000000000000 := by decide
      have e : (2 : Nat) ^ 200 = 1606938044258990275541962092341162602522202993782792835301376 := by decide
      omega
    refine ⟨_, pss_cons (ps_if (pt_cmpR op_gt (pe_ix ix_list (pv 0) pe_int (fun _ _ => rfl)) pe_int (nomark _))
        (pss_cons (ps_set (i := 2) scR.nd rfl (Or.inl rfl) (pe_op op_mod (pe_callTy call_int1 (by rfl) T.int (by decide +kernel) (pa_cons (pe_ix ix_list (pv 0) pe_int (fun _ _ => rfl)) pa_nil)) (pv 1)))
          (pss_cons (ps_asg (pe_op op_fdivW (pe_ix ix_list (pv 0) pe_int (fun _ _ => rfl)) (pv 1)) (pg_sub (pv 0) pe_int set_list)) (pss_one (ps_ret (pv 2))))) pss_nil)
      (pss_cons (ps_asg (pe_op op_add (pe_ix ix_list (pv 0) pe_int (fun _ _ => rfl)) pe_int) (pg_sub (pv 0) pe_int set_list))
      (pss_cons (ps_set (i := 3) scR.nd rfl (Or.inl rfl) (pe_op op_mod (pe_callTy call_int1 (by rfl) T.int (by decide +kernel) (pa_cons (pe_op op_add (pe_ix ix_list (pv 0) pe_int (fun _ _ => rfl)) (pe_op op_mul pe_int (pe_ix ix_list (pv 0) pe_int (fun _ _ => rfl)))) pa_nil)) pe_int))
      (pss_cons (ps_set (i := 4) scR.nd rfl (Or.inl rfl) (pe_op op_add (pe_op op_mul (pe_op op_mod (pe_callTy call_int1 (by rfl) T.int (by decide +kernel) (pa_cons (pe_op op_add (pe_op op_mul (pv 3) (pv 3)) (pe_op op_mul pe_int (pe_ix ix_list (pv 0) pe_int (fun _ _ => rfl)))) pa_nil)) pe_int) pe_int) (pv 3)))
      (pss_one (ps_ret (pe_op op_mod (pe_callTy call_int1 (by rfl) T.int (by decide +kernel) (pa_cons (pe_op op_fdiv (pv 4) pe_int) pa_nil)) (pv 1))))))), ?_⟩
    have at0 : ∀ (x y z : V), atI [x, y, z] 0 = some x := fun _ _ _ => rfl
    have at1 : ∀ (x y z : V), atI [x, y, z] 1 = some y := fun _ _ _ => rfl
    have at2 : ∀ (x y z : V), atI [x, y, z] 2 = some z := fun _ _ _ => rfl
    refine ⟨_, rfl, p, _, _, _, rfl, rfl, SqL.of hp, at0 _ _ _, _, _, rfl, rfl, _, rfl, ite2 (fun hl => ?_) (fun _ => ?_)⟩
    · refine ⟨_, rfl, p, _, _, _, rfl, rfl, SqL.of hp, at0 _ _ _, .inl ⟨_, rfl, _, rfl, _, _, rfl, rfl, ht, _, rfl, p, _, _, _, rfl, rfl, SqL.of hp, at0 _ _ _, _, rfl, _, _, rfl, rfl, wide_div ht tw (by decide) (by decide),
        _, rfl, p, _, _, 0, rfl, rfl, hp, rfl, _, rfl, ?_⟩⟩
      exact q _ _ _ (Int.emod_nonneg _ (by omega)) (Int.emod_lt_of_pos _ ht)
    · refine ⟨_, rfl, p, _, _, _, rfl, rfl, SqL.of hp, at2 _ _ _, _, _, rfl, rfl, _, rfl, p, _, _, 2, rfl, rfl, hp, rfl, ?_⟩
      have hp2 : (upd H p (.lst [.int l, .int sd, .int (n + 1)])) p = some (.lst [.int l, .int sd, .int (n + 1)]) := upd_same
      refine ⟨_, rfl, p, _, _, _, rfl, rfl, SqL.of hp2, at1 _ _ _, _, rfl, p, _, _, _, rfl, rfl, SqL.of hp2, at2 _ _ _, _, _, rfl, rfl, .inl ⟨by decide, by decide⟩, _, _, rfl, rfl, .inl ⟨_, rfl, _, _, rfl, rfl, (by show (0 : Int) < 2305843009213693613; decide), ?_⟩⟩
      refine ⟨_, rfl, _, rfl, _, _, rfl, rfl, .inl (modb _), _, rfl, p, _, _, _, rfl, rfl, SqL.of hp2, at2 _ _ _, _, _, rfl, rfl, .inl ⟨by decide, by decide⟩, _, _, rfl, rfl, .inl ⟨_, rfl, _, _, rfl, rfl, (by show (0 : Int) < 2305843009213693907; decide),
        _, _, rfl, rfl, .inr ⟨by decide, by decide⟩, _, rfl, _, _, rfl, rfl, _, rfl, _, _, rfl, rfl, ⟨by decide, by decide⟩, .inl ⟨_, rfl, _, rfl, _, _, rfl, rfl, ht, ?_⟩⟩⟩
      exact q _ _ _ (Int.emod_nonneg _ (by omega)) (Int.emod_lt_of_pos _ ht)
theorem scP : FnScope ["_law_dice_here", "_law_items"] ["_law_dice_here", "_law_items"] (defScope sPick) := ⟨rfl, rfl, rfl, by decide +kernel, rfl, by decide +kernel, by decide +kernel⟩
theorem ok_pick {f fR : Addr} {fd fdR : FuncData} (F : Fun K "_law_pick" "_law_pick" sPick f fd) (T : TxA mg) (G : FnOk P w K mg base CX0 1 fR fdR ["_law_dice_here", "_law_total"] spRoll) (D : Df K mg "_law_roll" ["_law_dice_here", "_law_total"] fR fdR) :
    FnOk P w K mg base CX0 2 f fd ["_law_dice_here", "_law_items"] spPick := by
  refine F.ok scP (fun vs H Q E h => ?_) (fun cdv A outer s H vs Q E hr h => ?_)
  · obtain ⟨p, L, xs, l, sd, n, rfl, _⟩ := h
    rfl
  · obtain ⟨p, L, xs, l, sd, n, rfl, hp, hL, hne, h0, h1, q⟩ := h
    refine ⟨_, pss_one (ps_ret (pe_ix ix_list (pv 1) (pe_call G hr (by rfl) D.mg D.kp D.b .nil pass0 (pa_cons (pv 0) (pa_cons (pe_callB call_len_seq (by rfl) T.len PySem.boot_len (pa_cons (pv 1) pa_nil)) pa_nil))) (fun _ _ => rfl))), ?_⟩
    refine ⟨_, rfl, _, rfl, _, rfl, L, xs, rfl, .inl (SqL.of hL), p, _, l, sd, n, rfl, hp, by omega, ?_, fun r l' n' r0 r1 => ?_⟩
    · have : (10 : Int) ^ 40 = 10000000000000000000000000000000000000000 := by decide
      omega
    · have hr1 : r.toNat < xs.length := by omega
      refine ⟨L, xs, r, xs[r.toNat], rfl, rfl, SqL.of (by rw [upd_ne hne.symm]; exact hL), at_of (j := r.toNat) (by omega) (List.getElem?_eq_getElem hr1), q r.toNat _ _ _ (List.getElem?_eq_getElem hr1)⟩
end
end Xgd
namespace Xgd
open PySem PySem.Spec PyProof.Rows L2
/-! ### the heap without the dice -/
def hide (p : Addr) (H : Hp) : Hp := fun b => if b = p then none else H b
theorem hide_ne {p b : Addr} {H : Hp} (h : b ≠ p) : hide p H b = H b := if_neg h
theorem hide_p {p : Addr} {H : Hp} : hide p H p = none := if_pos rfl
theorem hide_upd {p a : Addr} {H : Hp} {o : HO} (h : a ≠ p) : hide p (upd H a o) = upd (hide p H) a o := by
  funext b
  by_cases e : b = p
  · rw [e, hide_p, upd_ne h.symm, hide_p]
  · rw [hide_ne e]
    by_cases e2 : b = a
    · rw [e2, upd_same, upd_same]
    · rw [upd_ne e2, upd_ne e2, hide_ne e]
theorem hide_updp {p : Addr} {H : Hp} {o : HO} : hide p (upd H p o) = hide p H := by
  funext b
  by_cases e : b = p
  · rw [e, hide_p, hide_p]
  · rw [hide_ne e, hide_ne e, upd_ne e]
theorem hide_none {p a : Addr} {H : Hp} (h : H a = none) : hide p H a = none := by
  by_cases e : a = p
  · rw [e, hide_p]
  · rw [hide_ne e, h]
theorem Same.hide {p : Addr} {H H' : Hp} (s : Same H H') : Same (hide p H) (hide p H') := fun b o e => by
  by_cases h : b = p
  · rw [h, hide_p] at e
    cases e
  · rw [hide_ne h] at e ⊢
    exact s _ _ e
theorem Same.unhide {p : Addr} {H : Hp} : Same (Xgd.hide p H) H := fun b o e => by
  by_cases h : b = p
  · rw [h, hide_p] at e
    cases e
  · rw [hide_ne h] at e
    exact e
/-- a new object beside the dice -/
theorem hide_new {p a : Addr} {H : Hp} {o : HO} (hp : ∃ u, H p = some u) (ha : H a = none) : a ≠ p ∧ hide p (upd H a o) = upd (hide p H) a o ∧ hide p H a = none := by
  obtain ⟨u, hp⟩ := hp
  have h : a ≠ p := fun e => by
    rw [e, hp] at ha
    cases ha
  exact ⟨h, hide_upd h, hide_none ha⟩
theorem newH {p a : Addr} {G : Hp} {o : HO} (hp : DiceAt G p) (ha : G a = none) : a ≠ p ∧ DiceAt (upd G a o) p ∧ Same (hide p G) (hide p (upd G a o)) ∧ hide p (upd G a o) a = some o := by
  obtain ⟨l, sd, n, hp⟩ := hp
  obtain ⟨h1, h2, h3⟩ := hide_new (o := o) ⟨_, hp⟩ ha
  refine ⟨h1, ⟨l, sd, n, by rw [upd_ne h1.symm]; exact hp⟩, ?_, ?_⟩
  · rw [h2]
    exact Same.new h3
  · rw [h2]
    exact upd_same
theorem rolled {p : Addr} {G : Hp} {l sd n : Int} : DiceAt (upd G p (diceO l sd n)) p ∧ hide p (upd G p (diceO l sd n)) = hide p G := ⟨⟨l, sd, n, upd_same⟩, hide_updp⟩
theorem unhide {p a : Addr} {G : Hp} {o : HO} (h : hide p G a = some o) : G a = some o := Same.unhide _ _ h
/-! ### the drawn values -/
def niceB (d : PyData) : Bool := tupFit d && d.showable && decide (d.depth ≤ 5) && d.leavesShort 64 && decide (d.weight ≤ 2000)
theorem log_lt {n : Nat} (h : n ≤ 10 ^ 60) : n.log2 < 200 := by
  by_cases h0 : n = 0
  · rw [h0]
    decide
  · have e : (10 : Nat) ^ 60 < 2 ^ 200 := by decide
    exact (Nat.log2_lt h0).mpr (Nat.lt_of_le_of_lt h e)
theorem nice_int {i : Int} (h : i.natAbs ≤ 10 ^ 60) : niceB (.int i) = true := by
  have h1 := log_lt h
  have h2 : (PyData.shown (.int i)).length ≤ 62 := shown_intW (k := 61) (by
    have e : (10 : Nat) ^ 60 < 10 ^ 61 := by decide
    omega) (by decide)
  have h3 : (PyData.int i).weight ≤ 2000 := by
    show (if i == 0 then 0 else i.natAbs.log2 + 1) ≤ 2000
    split <;> omega
  unfold niceB
  simp only [Bool.and_eq_true, decide_eq_true_eq]
  refine ⟨⟨⟨⟨rfl, ?_⟩, Nat.zero_le _⟩, ?_⟩, h3⟩
  · show decide (i.natAbs.log2 < 1920) = true
    exact decide_eq_true (by omega)
  · show decide _ = true
    exact decide_eq_true (by omega)
def digs (ns : List Int) : PyData := .tuple (ns.map .int)
theorem nice_digs : ∀ (ns : List Int), ns.length ≤ 4 → (∀ n ∈ ns, 0 ≤ n ∧ n < 9) → niceB (digs ns) = true := by
  have one : ∀ n : Int, 0 ≤ n → n < 9 → n = 0 ∨ n = 1 ∨ n = 2 ∨ n = 3 ∨ n = 4 ∨ n = 5 ∨ n = 6 ∨ n = 7 ∨ n = 8 := fun n h1 h2 => by omega
  have parts : ∀ ns : List Int, (∀ n ∈ ns, 0 ≤ n ∧ n < 9) → (∀ d ∈ ns.map PyData.int, fitD d = true) ∧ PyData.showableAll (ns.map .int) = true ∧ PyData.depthAll (ns.map .int) ≤ 0 ∧ PyData.leavesShortAll 64 (ns.map .int) = true ∧ PyData.weightAll (ns.map .int) ≤ 5 * ns.length := by
    intro ns
    induction ns with
    | nil => intro _; exact ⟨fun _ h => (List.not_mem_nil h).elim, rfl, Nat.le_refl _, rfl, Nat.zero_le _⟩
    | cons n ns ih =>
      intro h
      obtain ⟨i1, i2, i3, i4, i5⟩ := ih fun m hm => h m (List.mem_cons_of_mem _ hm)
      obtain ⟨h1, h2⟩ := h n List.mem_cons_self
      have q : fitD (.int n) = true ∧ (PyData.int n).showable = true ∧ (PyData.int n).leavesShort 64 = true ∧ (PyData.int n).weight ≤ 4 := by
        rcases one n h1 h2 with rfl | rfl | rfl | rfl | rfl | rfl | rfl | rfl | rfl <;> decide +kernel
      obtain ⟨q1, q2, q3, q4⟩ := q
      refine ⟨fun d hd => ?_, ?_, ?_, ?_, ?_⟩
      · rcases List.mem_cons.mp hd with rfl | hd
        · exact q1
        · exact i1 d hd
      · simp only [List.map_cons, PyData.showableAll, q2, i2]
        rfl
      · simp only [List.map_cons, PyData.depthAll, PyData.depth]
        omega
      · simp only [List.map_cons, PyData.leavesShortAll, q3, i4]
        rfl
      · simp only [List.map_cons, PyData.weightAll, List.length_cons]
        omega
  intro ns hl h
  obtain ⟨i1, i2, i3, i4, i5⟩ := parts ns h
  unfold niceB digs
  simp only [Bool.and_eq_true, decide_eq_true_eq]
  refine ⟨⟨⟨⟨?_, ?_⟩, ?_⟩, ?_⟩, ?_⟩
  · show ((ns.map PyData.int).all fitD && decide ((ns.map PyData.int).length ≤ 100)) = true
    rw [List.all_eq_true.mpr i1, Bool.true_and]
    exact decide_eq_true (by rw [List.length_map]; omega)
  · show PyData.showableAll _ = true
    exact i2
  · show PyData.depthAll _ + 1 ≤ 5
    omega
  · show PyData.leavesShortAll 64 _ = true
    exact i4
  · show PyData.weightAll _ ≤ 2000
    omega
def spVals (K : PySem.W.Frag) : Sp := fun vs H Q _ => ∃ p, vs = [.ref p] ∧ DiceAt H p ∧ ∀ H' L xs ds, Same (hide p H) (hide p H') → DiceAt H' p → L ≠ p → H L = none → H' L = some (.lst xs) → DqAll K (hide p H') xs ds →
  (∀ d ∈ ds, niceB d = true) → 0 < xs.length → xs.length ≤ 100 → Q (.ref L) H'
end Xgd
namespace Xgd
open PySem PySem.Spec PyProof.Rows L2
section
variable {P : Program} {w : World} {K : PySem.W.Frag} {mg : Str → Option Value} {base : Heap}
theorem scV : FnScope ["_law_dice_here", "_law_number", "_law_found", "_law_turn"] ["_law_dice_here"] (defScope sVals) := ⟨rfl, rfl, rfl, by decide +kernel, rfl, by decide +kernel, by decide +kernel⟩
theorem ok_vals {f fR : Addr} {fd fdR : FuncData} (F : Fun K "_law_values" "_law_values" sVals f fd) (T : TxA mg) (G : FnOk P w K mg base CX0 1 fR fdR ["_law_dice_here", "_law_total"] spRoll) (D : Df K mg "_law_roll" ["_law_dice_here", "_law_total"] fR fdR) :
    FnOk P w K mg base CX0 2 f fd ["_law_dice_here"] (spVals K) := by
  refine F.ok scV (fun vs H Q E h => ?_) (fun cdv A outer s H vs Q E hr h => ?_)
  · obtain ⟨p, rfl, _⟩ := h
    rfl
  · obtain ⟨p, rfl, ⟨l, sd, n, hp⟩, q⟩ := h
    refine ⟨_, pss_cons (ps_set (i := 1) scV.nd rfl (Or.inl rfl) (pe_op op_add (pe_op op_mul (pe_call G hr (by rfl) D.mg D.kp D.b .nil pass0 (pa_cons (pv 0) (pa_cons (pe_op op_pow pe_int pe_int) pa_nil))) (pe_op op_pow pe_int pe_int))
        (pe_call G hr (by rfl) D.mg D.kp D.b .nil pass0 (pa_cons (pv 0) (pa_cons (pe_op op_pow pe_int pe_int) pa_nil)))))
      (pss_cons (ps_set (i := 2) scV.nd rfl (Or.inl rfl) (pe_lst (pa_cons pe_int (pa_cons pe_int (pa_cons (pe_un un_neg pe_int) (pa_cons pe_bl (pa_cons pe_bl (pa_cons pe_non (pa_cons pe_str (pa_cons pe_str (pa_cons (pe_tup pa_nil)
          (pa_cons (pe_tup (pa_cons pe_int pa_nil)) (pa_cons (pe_lst pa_nil) (pa_cons (pe_lst (pa_cons pe_int pa_nil)) (pa_cons pe_dnewK (pa_cons (pv 1) (pa_cons (pe_un un_neg (pv 1)) (pa_cons (pe_op op_sub (pe_op op_pow pe_int pe_int) pe_int) (pa_cons (pe_op op_pow pe_int pe_int) pa_nil)))))))))))))))))))
      (pss_cons (ps_set (i := 2) scV.nd rfl (Or.inl rfl) (pe_op op_cat (pv 2) (pe_lst (pa_cons (pe_un un_neg (pe_op op_pow pe_int pe_int)) (pa_cons (pe_op op_sub pe_int (pe_op op_pow pe_int pe_int)) (pa_cons (pe_tup (pa_cons pe_int (pa_cons pe_int (pa_cons pe_int pa_nil))))
          (pa_cons (pe_tup (pa_cons pe_int (pa_cons pe_bl pa_nil))) (pa_cons (pe_tup (pa_cons pe_int (pa_cons (pe_un un_neg pe_int) pa_nil))) (pa_cons (pe_tup (pa_cons (pe_op op_pow pe_int pe_int) pa_nil)) (pa_cons (pe_tup (pa_cons (pe_tup (pa_cons pe_int pa_nil)) pa_nil))
          (pa_cons (pe_tup (pa_cons pe_non pa_nil)) (pa_cons (pe_tup (pa_cons pe_int (pa_cons pe_str pa_nil))) (pa_cons (pe_lst (pa_cons pe_int (pa_cons pe_int pa_nil))) pa_nil)))))))))))))
      (pss_one (ps_ret (pe_op op_cat (pv 2) (pe_lst (pa_cons (pe_callTy call_tuple_of (by rfl) T.tup (by decide +kernel) (pa_cons (pe_lc (own := [("_law_turn", 3)]) (g := gName 3) (tt := tYes) rfl scV.nd
            (pi_range1 (by rfl) T.range (pa_cons (pe_call G hr (by rfl) D.mg D.kp D.b .nil pass0 (pa_cons (pv 0) (pa_cons pe_int pa_nil))) pa_nil)) (blkOk_by (N := ["_law_dice_here", "_law_number", "_law_found", "_law_turn"]) (sc := defScope sVals) (by decide +kernel))
            (fun _ _ _ _ _ => pg_name (i := 3) scV.nd rfl (Or.inl rfl)) (fun _ _ _ _ _ => pts_nil) (fun _ _ _ _ _ => pe_call G hr (by rfl) D.mg D.kp D.b .nil pass0 (pa_cons (pv 0) (pa_cons pe_int pa_nil)))) pa_nil))
          (pa_cons (pe_un un_neg (pe_call G hr (by rfl) D.mg D.kp D.b .nil pass0 (pa_cons (pv 0) (pa_cons pe_int pa_nil)))) pa_nil)))))))), ?_⟩
    have cp : ∀ k : Int, 0 ≤ k → k ≤ 1000000 → CPow 10 k := fun k h0 h1 => ⟨h0, h1, by decide⟩
    refine ⟨_, rfl, _, _, rfl, rfl, cp _ (by decide) (by decide), p, _, l, sd, n, rfl, hp, by decide, by decide, fun r1 l1 n1 a1 b1 => ?_⟩
    have e18 : (10 : Int) ^ (18 : Int).toNat = 1000000000000000000 := by decide
    have e9 : (10 : Int) ^ (9 : Int).toNat = 1000000000 := by decide
    have e42 : (10 : Int) ^ (42 : Int).toNat = 1000000000000000000000000000000000000000000 := by decide
    rw [e18] at b1
    have hb1 : -(2 ^ 64) < r1 ∧ r1 < 2 ^ 64 := by
      have e : (2 : Int) ^ 64 = 18446744073709551616 := by decide
      omega
    refine ⟨_, _, rfl, rfl, cp _ (by decide) (by decide), _, _, rfl, rfl, .inl hb1, ?_⟩
    refine ⟨_, rfl, _, _, rfl, rfl, cp _ (by decide) (by decide), p, _, l1, sd, n1, rfl, upd_same, by decide, by decide, fun r2 l2 n2 a2 b2 => ?_⟩
    rw [e9] at b2
    refine ⟨_, _, rfl, rfl, ?_⟩
    obtain ⟨N, hN⟩ : ∃ N, N = r1 * 10 ^ (42 : Int).toNat + r2 := ⟨_, rfl⟩
    have hN0 : N.natAbs ≤ 10 ^ 60 := by
      have e : (10 : Nat) ^ 60 = 1000000000000000000000000000000000000000000000000000000000000 := by decide
      rw [e42] at hN
      omega
    show gName 1 (V.int (r1 * 10 ^ (42 : Int).toNat + r2)) _ _ _
    rw [← hN]
    obtain ⟨H2, hH2⟩ : ∃ H2, H2 = upd (upd H p (diceO l1 sd n1)) p (diceO l2 sd n2) := ⟨_, rfl⟩
    have hp2 : H2 p = some (diceO l2 sd n2) := by rw [hH2]; exact upd_same
    have hh2 : hide p H2 = hide p H := by rw [hH2, hide_updp, hide_updp]
    rw [← hH2]
    clear hH2 hN
    have d0 : DiceAt H2 p := ⟨_, _, _, hp2⟩
    clear hp2
    -- the first list
    refine ⟨_, rfl, by show 0 ≤ sizeLine; exact Nat.zero_le _, fun t0 ht0 => ?_⟩
    obtain ⟨neA, dA, sA, gA⟩ := newH (o := HO.tup []) d0 ht0
    generalize upd H2 t0 (HO.tup []) = A at dA sA gA ⊢
    refine ⟨by show 1 ≤ sizeLine; decide, fun t1 ht1 => ?_⟩
    obtain ⟨neB, dB, sB, gB⟩ := newH (o := HO.tup [V.int 0]) dA ht1
    generalize upd A t1 (HO.tup [V.int 0]) = B at dB sB gB ⊢
    refine ⟨by show 0 ≤ sizeLine; exact Nat.zero_le _, fun t2 ht2 => ?_⟩
    obtain ⟨neC, dC, sC, gC⟩ := newH (o := HO.lst []) dB ht2
    generalize upd B t2 (HO.lst []) = C at dC sC gC ⊢
    refine ⟨by show 1 ≤ sizeLine; decide, fun t3 ht3 => ?_⟩
    obtain ⟨neDD, dDD, sDD, gDD⟩ := newH (o := HO.lst [V.int 1]) dC ht3
    generalize upd C t3 (HO.lst [V.int 1]) = DD at dDD sDD gDD ⊢
    intro t4 ht4
    obtain ⟨neEE, dEE, sEE, gEE⟩ := newH (o := HO.dK []) dDD ht4
    generalize upd DD t4 (HO.dK []) = EE at dEE sEE gEE ⊢
    refine ⟨_, rfl, _, rfl, _, rfl, _, _, rfl, rfl, cp _ (by decide) (by decide), _, _, rfl, rfl, _, _, rfl, rfl, cp _ (by decide) (by decide), by show 17 ≤ sizeLine; decide, fun L1 hL1 => ?_⟩
    obtain ⟨neFF, dFF, sFF, gFF⟩ := newH (o := HO.lst [V.int 0, V.int 1, V.int (-1), V.bl true, V.bl false, V.non, V.str "", V.str "1", V.ref t0, V.ref t1, V.ref t2, V.ref t3, V.ref t4, V.int N, V.int (-N), V.int (10 ^ (60 : Int).toNat - 1), V.int (10 ^ (60 : Int).toNat)]) dEE hL1
    generalize upd EE L1 (HO.lst [V.int 0, V.int 1, V.int (-1), V.bl true, V.bl false, V.non, V.str "", V.str "1", V.ref t0, V.ref t1, V.ref t2, V.ref t3, V.ref t4, V.int N, V.int (-N), V.int (10 ^ (60 : Int).toNat - 1), V.int (10 ^ (60 : Int).toNat)]) = FF at dFF sFF gFF ⊢
    -- the second list
    refine ⟨_, rfl, _, _, rfl, rfl, cp _ (by decide) (by decide), _, rfl, _, _, rfl, rfl, cp _ (by decide) (by decide), _, _, rfl, rfl, by show 3 ≤ sizeLine; decide, fun t5 ht5 => ?_⟩
    obtain ⟨neGG, dGG, sGG, gGG⟩ := newH (o := HO.tup [V.int 1, V.int 0, V.int 1]) dFF ht5
    generalize upd FF t5 (HO.tup [V.int 1, V.int 0, V.int 1]) = GG at dGG sGG gGG ⊢
    refine ⟨by show 2 ≤ sizeLine; decide, fun t6 ht6 => ?_⟩
    obtain ⟨neHH, dHH, sHH, gHH⟩ := newH (o := HO.tup [V.int 1, V.bl true]) dGG ht6
    generalize upd GG t6 (HO.tup [V.int 1, V.bl true]) = HH at dHH sHH gHH ⊢
    refine ⟨_, rfl, by show 2 ≤ sizeLine; decide, fun t7 ht7 => ?_⟩
    obtain ⟨neII, dII, sII, gII⟩ := newH (o := HO.tup [V.int 2, V.int (-1)]) dHH ht7
    generalize upd HH t7 (HO.tup [V.int 2, V.int (-1)]) = II at dII sII gII ⊢
    refine ⟨_, _, rfl, rfl, cp _ (by decide) (by decide), by show 1 ≤ sizeLine; decide, fun t8 ht8 => ?_⟩
    obtain ⟨neJJ, dJJ, sJJ, gJJ⟩ := newH (o := HO.tup [V.int (10 ^ (60 : Int).toNat)]) dII ht8
    generalize upd II t8 (HO.tup [V.int (10 ^ (60 : Int).toNat)]) = JJ at dJJ sJJ gJJ ⊢
    refine ⟨by show 1 ≤ sizeLine; decide, fun t9 ht9 => ?_⟩
    obtain ⟨neKK, dKK, sKK, gKK⟩ := newH (o := HO.tup [V.int 1]) dJJ ht9
    generalize upd JJ t9 (HO.tup [V.int 1]) = KK at dKK sKK gKK ⊢
    refine ⟨by show 1 ≤ sizeLine; decide, fun t10 ht10 => ?_⟩
    obtain ⟨neLL, dLL, sLL, gLL⟩ := newH (o := HO.tup [V.ref t9]) dKK ht10
    generalize upd KK t10 (HO.tup [V.ref t9]) = LL at dLL sLL gLL ⊢
    refine ⟨by show 1 ≤ sizeLine; decide, fun t11 ht11 => ?_⟩
    obtain ⟨neMM, dMM, sMM, gMM⟩ := newH (o := HO.tup [V.non]) dLL ht11
    generalize upd LL t11 (HO.tup [V.non]) = MM at dMM sMM gMM ⊢
    refine ⟨by show 2 ≤ sizeLine; decide, fun t12 ht12 => ?_⟩
    obtain ⟨neNN, dNN, sNN, gNN⟩ := newH (o := HO.tup [V.int 3, V.str "3"]) dMM ht12
    generalize upd MM t12 (HO.tup [V.int 3, V.str "3"]) = NN at dNN sNN gNN ⊢
    refine ⟨by show 2 ≤ sizeLine; decide, fun t13 ht13 => ?_⟩
    obtain ⟨neOO, dOO, sOO, gOO⟩ := newH (o := HO.lst [V.int 0, V.int 1]) dNN ht13
    generalize upd NN t13 (HO.lst [V.int 0, V.int 1]) = OO at dOO sOO gOO ⊢
    refine ⟨by show 10 ≤ sizeLine; decide, fun L2 hL2 => ?_⟩
    obtain ⟨nePP, dPP, sPP, gPP⟩ := newH (o := HO.lst [V.int (-(10 ^ (60 : Int).toNat)), V.int (1 - 10 ^ (60 : Int).toNat), V.ref t5, V.ref t6, V.ref t7, V.ref t8, V.ref t10, V.ref t11, V.ref t12, V.ref t13]) dOO hL2
    generalize upd OO L2 (HO.lst [V.int (-(10 ^ (60 : Int).toNat)), V.int (1 - 10 ^ (60 : Int).toNat), V.ref t5, V.ref t6, V.ref t7, V.ref t8, V.ref t10, V.ref t11, V.ref t12, V.ref t13]) = PP at dPP sPP gPP ⊢
    have cPP : Same (hide p PP) (hide p PP) := Same.refl _
    have cOO : Same (hide p OO) (hide p PP) := sPP.trans cPP
    have cNN : Same (hide p NN) (hide p PP) := sOO.trans cOO
    have cMM : Same (hide p MM) (hide p PP) := sNN.trans cNN
    have cLL : Same (hide p LL) (hide p PP) := sMM.trans cMM
    have cKK : Same (hide p KK) (hide p PP) := sLL.trans cLL
    have cJJ : Same (hide p JJ) (hide p PP) := sKK.trans cKK
    have cII : Same (hide p II) (hide p PP) := sJJ.trans cJJ
    have cHH : Same (hide p HH) (hide p PP) := sII.trans cII
    have cGG : Same (hide p GG) (hide p PP) := sHH.trans cHH
    have cFF : Same (hide p FF) (hide p PP) := sGG.trans cGG
    have cEE : Same (hide p EE) (hide p PP) := sFF.trans cFF
    have cDD : Same (hide p DD) (hide p PP) := sEE.trans cEE
    have cC : Same (hide p C) (hide p PP) := sDD.trans cDD
    have cB : Same (hide p B) (hide p PP) := sC.trans cC
    have cA : Same (hide p A) (hide p PP) := sB.trans cB
    have c0 : Same (hide p H) (hide p PP) := by rw [← hh2]; exact sA.trans cA
    refine ⟨L1, L2, _, _, rfl, rfl, unhide (cFF _ _ gFF), unhide (cPP _ _ gPP), by show 27 ≤ sizeLine; decide, fun L3 hL3 => ?_⟩
    obtain ⟨neQQ, dQQ, sQQ, gQQ⟩ := newH (o := HO.lst ([V.int 0, V.int 1, V.int (-1), V.bl true, V.bl false, V.non, V.str "", V.str "1", V.ref t0, V.ref t1, V.ref t2, V.ref t3, V.ref t4, V.int N, V.int (-N), V.int (10 ^ (60 : Int).toNat - 1), V.int (10 ^ (60 : Int).toNat)] ++ [V.int (-(10 ^ (60 : Int).toNat)), V.int (1 - 10 ^ (60 : Int).toNat), V.ref t5, V.ref t6, V.ref t7, V.ref t8, V.ref t10, V.ref t11, V.ref t12, V.ref t13])) dPP hL3
    generalize upd PP L3 (HO.lst ([V.int 0, V.int 1, V.int (-1), V.bl true, V.bl false, V.non, V.str "", V.str "1", V.ref t0, V.ref t1, V.ref t2, V.ref t3, V.ref t4, V.int N, V.int (-N), V.int (10 ^ (60 : Int).toNat - 1), V.int (10 ^ (60 : Int).toNat)] ++ [V.int (-(10 ^ (60 : Int).toNat)), V.int (1 - 10 ^ (60 : Int).toNat), V.ref t5, V.ref t6, V.ref t7, V.ref t8, V.ref t10, V.ref t11, V.ref t12, V.ref t13])) = QQ at dQQ sQQ gQQ ⊢
    obtain ⟨l5, sd5, n5, e5⟩ := dQQ
    refine ⟨_, rfl, _, rfl, p, _, l5, sd5, n5, rfl, e5, by decide, by decide, fun r5 l6 n6 a5 b5 => ?_⟩
    obtain ⟨dRR, hRR⟩ := rolled (p := p) (G := QQ) (l := l6) (sd := sd5) (n := n6)
    generalize upd QQ p (diceO l6 sd5 n6) = RR at dRR hRR ⊢
    refine ⟨r5, rfl, by omega, by omega, fun D0 hD0 => ?_⟩
    obtain ⟨lR, sdR, nR, eR⟩ := dRR
    have hnD : hide p RR D0 = none := hide_none hD0
    have neD : D0 ≠ p := fun e => by
      rw [e, eR] at hD0
      cases hD0
    refine lc_range (lo := 0) (n := r5.toNat) (fun i H' => ∃ ms : List Int, hide p H' = upd (hide p RR) D0 (.lst (ms.map V.int)) ∧ DiceAt H' p ∧ ms.length = i ∧ ∀ m ∈ ms, 0 ≤ m ∧ m < 9)
      ⟨[], hide_upd neD, ⟨lR, sdR, nR, by rw [upd_ne neD.symm]; exact eR⟩, rfl, fun m hm => (List.not_mem_nil hm).elim⟩ ?_ ?_
    · rintro i H' hi ⟨ms, hh, ⟨l7, sd7, n7, e7⟩, hl, hm⟩
      refine ⟨rfl, _, rfl, p, 9, l7, sd7, n7, rfl, e7, by decide, by decide, fun r l8 n8 a8 b8 => ⟨ms.map V.int, ?_, small1000 (by rw [List.length_map]; omega), ms ++ [r], ?_, ⟨l8, sd7, n8, ?_⟩, by rw [List.length_append]; simp [hl], fun m hm' => ?_⟩⟩
      · rw [upd_ne neD]
        exact unhide (by rw [hh]; exact upd_same)
      · rw [hide_upd neD, hide_updp, hh, upd_upd, List.map_append]
        rfl
      · rw [upd_ne neD.symm]
        exact upd_same
      · rcases List.mem_append.mp hm' with h | h
        · exact hm m h
        · rw [List.mem_singleton.mp h]
          exact ⟨a8, b8⟩
    · rintro SS ⟨ms, hh, dSS, hl, hm⟩
      have sSS : Same (hide p RR) (hide p SS) := by
        rw [hh]
        exact Same.new hnD
      have gSS : hide p SS D0 = some (.lst (ms.map V.int)) := by
        rw [hh]
        exact upd_same
      refine ⟨D0, ms.map V.int, rfl, .inl ⟨SqL.of (unhide gSS), fun t14 ht14 => ?_⟩⟩
      obtain ⟨neTT, dTT, sTT, gTT⟩ := newH (o := HO.tup (ms.map V.int)) dSS ht14
      generalize upd SS t14 (HO.tup (ms.map V.int)) = TT at dTT sTT gTT ⊢
      obtain ⟨l9, sd9, n9, e9'⟩ := dTT
      refine ⟨_, rfl, p, 50, l9, sd9, n9, rfl, e9', by decide, by decide, fun r9 l10 n10 a10 b10 => ?_⟩
      obtain ⟨dUU, hUU⟩ := rolled (p := p) (G := TT) (l := l10) (sd := sd9) (n := n10)
      generalize upd TT p (diceO l10 sd9 n10) = UU at dUU hUU ⊢
      refine ⟨_, rfl, by show 2 ≤ sizeLine; decide, fun L4 hL4 => ?_⟩
      obtain ⟨neVV, dVV, sVV, gVV⟩ := newH (o := HO.lst [V.ref t14, V.int (-r9)]) dUU hL4
      generalize upd UU L4 (HO.lst [V.ref t14, V.int (-r9)]) = VV at dVV sVV gVV ⊢
      have c2 : Same (hide p QQ) (hide p VV) := by
        rw [← hRR]
        refine (sSS.trans sTT).trans ?_
        rw [← hUU]
        exact sVV
      have c3 : Same (hide p TT) (hide p VV) := by
        rw [← hUU]
        exact sVV
      refine ⟨L3, L4, _, _, rfl, rfl, unhide (c2 _ _ gQQ), unhide gVV, by show 29 ≤ sizeLine; decide, fun L5 hL5 => ?_⟩
      obtain ⟨neWW, dWW, sWW, gWW⟩ := newH (o := HO.lst (([V.int 0, V.int 1, V.int (-1), V.bl true, V.bl false, V.non, V.str "", V.str "1", V.ref t0, V.ref t1, V.ref t2, V.ref t3, V.ref t4, V.int N, V.int (-N), V.int (10 ^ (60 : Int).toNat - 1), V.int (10 ^ (60 : Int).toNat)] ++ [V.int (-(10 ^ (60 : Int).toNat)), V.int (1 - 10 ^ (60 : Int).toNat), V.ref t5, V.ref t6, V.ref t7, V.ref t8, V.ref t10, V.ref t11, V.ref t12, V.ref t13]) ++ [V.ref t14, V.int (-r9)])) dVV hL5
      generalize upd VV L5 (HO.lst (([V.int 0, V.int 1, V.int (-1), V.bl true, V.bl false, V.non, V.str "", V.str "1", V.ref t0, V.ref t1, V.ref t2, V.ref t3, V.ref t4, V.int N, V.int (-N), V.int (10 ^ (60 : Int).toNat - 1), V.int (10 ^ (60 : Int).toNat)] ++ [V.int (-(10 ^ (60 : Int).toNat)), V.int (1 - 10 ^ (60 : Int).toNat), V.ref t5, V.ref t6, V.ref t7, V.ref t8, V.ref t10, V.ref t11, V.ref t12, V.ref t13]) ++ [V.ref t14, V.int (-r9)])) = WW at dWW sWW gWW ⊢
      have c : Same (hide p PP) (hide p WW) := (sQQ.trans c2).trans sWW
      have cT : Same (hide p TT) (hide p WW) := c3.trans sWW
      have hLH : H L5 = none := by
        have e := Same.free ((c0.trans (sQQ.trans c2))) (hide_none hL5)
        rw [hide_ne neWW] at e
        exact e
      have hd : ∀ ms : List Int, DqAll K (hide p WW) (ms.map V.int) (ms.map PyData.int) := by
        intro ms
        induction ms with
        | nil => exact .nil
        | cons m ms ih => exact .cons (.int m) ih
      refine q WW L5 _ (([.int 0, .int 1, .int (-1), .bool true, .bool false, .none, .str "", .str "1", .tuple [], .tuple [.int 0], .list [], .list [.int 1], .dict [], .int N, .int (-N), .int (10 ^ (60 : Int).toNat - 1), .int (10 ^ (60 : Int).toNat)] ++
        [.int (-(10 ^ (60 : Int).toNat)), .int (1 - 10 ^ (60 : Int).toNat), .tuple [.int 1, .int 0, .int 1], .tuple [.int 1, .bool true], .tuple [.int 2, .int (-1)], .tuple [.int (10 ^ (60 : Int).toNat)], .tuple [.tuple [.int 1]], .tuple [.none], .tuple [.int 3, .str "3"], .list [.int 0, .int 1]]) ++
        [digs ms, .int (-r9)]) (c0.trans c) dWW neWW hLH (unhide gWW) (DqAll.append (DqAll.append ?_ ?_) ?_) (fun d hd => ?_) (by show (0 : Nat) < 29; decide) (by show (29 : Nat) ≤ 100; decide)
      · exact .cons (.int _) (.cons (.int _) (.cons (.int _) (.cons (.bl _) (.cons (.bl _) (.cons .non (.cons (.str _) (.cons (.str _) (.cons (.tup (SqT.of (c _ _ (cA _ _ gA))) .nil) (.cons (.tup (SqT.of (c _ _ (cB _ _ gB))) (.cons (.int _) .nil))
          (.cons (.lst (SqL.of (c _ _ (cC _ _ gC))) .nil) (.cons (.lst (SqL.of (c _ _ (cDD _ _ gDD))) (.cons (.int _) .nil)) (.cons (.dct (c _ _ (cEE _ _ gEE))) (.cons (.int _) (.cons (.int _) (.cons (.int _) (.cons (.int _) .nil))))))))))))))))
      · exact .cons (.int _) (.cons (.int _) (.cons (.tup (SqT.of (c _ _ (cGG _ _ gGG))) (.cons (.int _) (.cons (.int _) (.cons (.int _) .nil)))) (.cons (.tup (SqT.of (c _ _ (cHH _ _ gHH))) (.cons (.int _) (.cons (.bl _) .nil)))
          (.cons (.tup (SqT.of (c _ _ (cII _ _ gII))) (.cons (.int _) (.cons (.int _) .nil))) (.cons (.tup (SqT.of (c _ _ (cJJ _ _ gJJ))) (.cons (.int _) .nil)) (.cons (.tup (SqT.of (c _ _ (cLL _ _ gLL))) (.cons (.tup (SqT.of (c _ _ (cKK _ _ gKK))) (.cons (.int _) .nil)) .nil))
          (.cons (.tup (SqT.of (c _ _ (cMM _ _ gMM))) (.cons .non .nil)) (.cons (.tup (SqT.of (c _ _ (cNN _ _ gNN))) (.cons (.int _) (.cons (.str _) .nil))) (.cons (.lst (SqL.of (c _ _ (cOO _ _ gOO))) (.cons (.int _) (.cons (.int _) .nil))) .nil)))))))))
      · exact .cons (.tup (SqT.of (cT _ _ gTT)) (hd ms)) (.cons (.int _) .nil)
      · rcases List.mem_append.mp hd with hd | hd
        · rcases List.mem_append.mp hd with hd | hd
          · simp only [List.mem_cons, List.not_mem_nil, or_false] at hd
            rcases hd with rfl | rfl | rfl | rfl | rfl | rfl | rfl | rfl | rfl | rfl | rfl | rfl | rfl | rfl | rfl | rfl | rfl <;> first | exact nice_int hN0 | exact nice_int (by rw [Int.natAbs_neg]; exact hN0) | decide +kernel
          · simp only [List.mem_cons, List.not_mem_nil, or_false] at hd
            rcases hd with rfl | rfl | rfl | rfl | rfl | rfl | rfl | rfl | rfl | rfl <;> decide +kernel
        · simp only [List.mem_cons, List.not_mem_nil, or_false] at hd
          rcases hd with rfl | rfl
          · exact nice_digs ms (by omega) hm
          · have e : (10 : Nat) ^ 60 = 1000000000000000000000000000000000000000000000000000000000000 := by decide
            exact nice_int (by omega)
end
end Xgd
namespace Xgd
open PySem PySem.Spec PyProof.Rows L2
theorem guards_deeper {A : Around} {env : Env} (h : A.guards = some []) : (A.deeper env).guards = some [] := h
theorem nice_tup {d : PyData} (h : niceB d = true) : tupFit d = true := by
  unfold niceB at h
  simp only [Bool.and_eq_true] at h
  exact h.1.1.1.1
theorem and_ge {K : PySem.W.Frag} {σ : L2.St} {H : Hp} {v : V} {d : PyData} {i : Nat} {Q : VK} (hs : σ[i]? = some (some v)) (hq : Dq K H v d) (h : Q (.bl (cntD d)) H) :
    ∃ c, V.bl (numD d) = .bl c ∧ if c = true then (tOp (rI0 fun i j => V.bl (decide (j ≤ i))) (tVar i) (tC (.int 0))) σ H Q else Q (.bl false) H := by
  refine ⟨numD d, rfl, ?_⟩
  rcases cnt_cases d with ⟨e1, e2⟩ | ⟨j, rfl, e1, e2⟩
  · rw [e1]
    rw [e2] at h
    exact iteF h
  · rw [e1]
    rw [e2] at h
    cases hq
    exact iteT ⟨_, hs, j, 0, rfl, rfl, h⟩
def b3 (a b c : Bool) : PyData := .list [.bool a, .bool b, .bool c]
theorem b3_len (a b c : Bool) : (b3 a b c).shown.length ≤ sizeLine := PyData.shown_fits (B := 13) (by decide) (by decide) rfl (by show (3 : Nat) ≤ 2 ^ 20; decide)
theorem b3_dq {K : PySem.W.Frag} {H : Hp} {L : Addr} {a b c : Bool} (h : H L = some (.lst [.bl a, .bl b, .bl c])) : Dq K H (.ref L) (b3 a b c) := .lst (SqL.of h) (.cons (.bl a) (.cons (.bl b) (.cons (.bl c) .nil)))
def spTrue : Sp := fun vs H Q _ => ∃ p, vs = [.ref p] ∧ DiceAt H p ∧ ∀ H', Same (hide p H) (hide p H') → DiceAt H' p → Q (.bl true) H'
theorem spTrue_len {x : Str} : ∀ vs H Q E, spTrue vs H Q E → vs.length = [x].length := by
  rintro vs H Q E ⟨v, rfl, _⟩
  rfl
/-- what stood beside the dice stands, the dice too -/
theorem beside {p : Addr} {H H' : Hp} (s : Same H H') (d : DiceAt H p) : Same (hide p H) (hide p H') ∧ DiceAt H' p := by
  obtain ⟨l, sd, n, e⟩ := d
  exact ⟨Xgd.Same.hide s, l, sd, n, s _ _ e⟩
section
variable {P : Program} {w : World} {K : PySem.W.Frag} {mg : Str → Option Value} {base : Heap}
theorem scW : FnScope ["_law_dice_here", "_law_value", "_law_due"] ["_law_dice_here"] (defScope sWords) := ⟨rfl, rfl, rfl, by decide +kernel, rfl, by decide +kernel, by decide +kernel⟩
theorem ok_words {f fV fN fA fI fC fS : Addr} {fd fdV fdN fdA fdI fdC fdS : FuncData} (F : Fun K "_law_words_right" "_law_words_right" sWords f fd) (T : TxA mg) (hm : ∃ mm, base.Ns sysModules mm)
    (GV : FnOk P w K mg base CX0 2 fV fdV ["_law_dice_here"] (spVals K)) (DV : Df K mg "_law_values" ["_law_dice_here"] fV fdV)
    (GN : FnOk P w K mg base CX0 1 fN fdN ["_law_value"] (sp1 K numD)) (DN : Df K mg "_law_is_number" ["_law_value"] fN fdN)
    (GA : FnOk P w K mg base CX0 2 fA fdA ["_law_value"] (sp1S K cntsD)) (DA : Df K mg "_law_are_numbers" ["_law_value"] fA fdA)
    (GI : FnOk P w K mg base CX0 1 fI fdI ["value"] (sp1 K numD)) (DI : Df K mg "is_integer" ["value"] fI fdI)
    (GC : FnOk P w K mg base CX0 2 fC fdC ["value"] (sp1 K cntD)) (DC : Df K mg "is_count" ["value"] fC fdC)
    (GS : FnOk P w K mg base CX0 3 fS fdS ["value"] (sp1S K cntsD)) (DS : Df K mg "are_counts" ["value"] fS fdS) :
    FnG P w K mg base 4 f fd ["_law_dice_here"] spTrue := by
  refine FnG.mk' F scW spTrue_len (fun cdv A outer s H vs Q E hga hr h => ?_)
  obtain ⟨p, rfl, d0, q⟩ := h
  have hgd : (A.deeper (envOfC "_law_words_right" (defScope sWords) s.heap.objs.size f cdv)).guards = some [] := guards_deeper hga
  obtain ⟨tf, hfig⟩ := T.fig
  refine ⟨_, pss_cons (ps_for PassesOwn.never rfl (pi_list (pe_call GV (hr.mono (by decide)) (by rfl) DV.mg DV.kp DV.b .nil pass0 (pa_cons (pv 0) pa_nil))) (pg_name (i := 1) scW.nd rfl (Or.inl rfl))
      (pss_cons (ps_set (i := 2) scW.nd rfl (Or.inl rfl) (pe_lst (pa_cons (pe_call GN (hr.mono (by decide)) (by rfl) DN.mg DN.kp DN.b .nil pass0 (pa_cons (pv 1) pa_nil))
          (pa_cons (pe_and (pe_call GN (hr.mono (by decide)) (by rfl) DN.mg DN.kp DN.b .nil pass0 (pa_cons (pv 1) pa_nil)) (pe_one (pe_cmpR op_ge (pv 1) pe_int (nomark _))))
          (pa_cons (pe_call GA (hr.mono (by decide)) (by rfl) DA.mg DA.kp DA.b .nil pass0 (pa_cons (pv 1) pa_nil)) pa_nil)))))
      (pss_one (ps_if (pt_cmpR op_ne (pe_callB (call_reprD hgd hr.units hm) (by rfl) T.repr boot_repr (pa_cons (pe_lst (pa_cons (pe_call GI (hr.mono (by decide)) (by rfl) DI.mg DI.kp DI.b .nil pass0 (pa_cons (pv 1) pa_nil))
          (pa_cons (pe_call GC (hr.mono (by decide)) (by rfl) DC.mg DC.kp DC.b .nil pass0 (pa_cons (pv 1) pa_nil)) (pa_cons (pe_call GS hr (by rfl) DS.mg DS.kp DS.b .nil pass0 (pa_cons (pv 1) pa_nil)) pa_nil)))) pa_nil))
        (pe_callB (call_reprD hgd hr.units hm) (by rfl) T.repr boot_repr (pa_cons (pv 2) pa_nil)) (nomark _)) (pss_one (ps_ret pe_bl)) pss_nil))))
    (pss_one (ps_ret (pe_cmpR op_eq (pe_glob (v := .int 60) (by rfl) hfig ⟨_, rfl⟩) pe_int (nomark _)))), ?_⟩
  refine ⟨_, rfl, p, rfl, d0, fun H1 L xs ds s1 d1 neL _ hL hall hnice _ hlen => ?_⟩
  have kL : ∀ H', Same (hide p H1) (hide p H') → H' L = some (.lst xs) := fun H' s => unhide (s _ _ (by rw [hide_ne neL]; exact hL))
  refine ⟨L, rfl, ⟨_, SqL.of hL⟩, for_list (K := K) (a := L) (xs := xs) (fun i σ H' => ∃ v1 v2, σ = [some (.ref p), v1, v2] ∧ Same (hide p H1) (hide p H') ∧ DiceAt H' p) ⟨none, none, rfl, Same.refl _, d1⟩ (fun i σ H' _ ⟨_, _, _, s, _⟩ => SqL.of (kL H' s)) ?_ ?_⟩
  · rintro i y σ H2 hi ⟨v1, v2, rfl, s2, d2⟩
    obtain ⟨d, hd, hq1⟩ := hall.get hi
    have hn := hnice d (List.mem_of_getElem? hd)
    have hq : ∀ H', Same H2 H' → Dq K H' y d := fun H' s => Dq.mono s d y (Dq.mono (s2.trans Same.unhide) d y hq1)
    refine ⟨_, rfl, y, d, rfl, hq _ (Same.refl _), _, rfl, y, d, rfl, hq _ (Same.refl _), and_ge rfl (hq _ (Same.refl _)) ?_⟩
    refine ⟨_, rfl, y, d, rfl, hq _ (Same.refl _), nice_tup hn, fun H3 s3 => ⟨by show 3 ≤ sizeLine; decide, fun L1 hL1 => ?_⟩⟩
    have s4 : Same H2 (upd H3 L1 (.lst [.bl (numD d), .bl (cntD d), .bl (cntsD d)])) := s3.trans (Same.new hL1)
    have g4 : (upd H3 L1 (.lst [.bl (numD d), .bl (cntD d), .bl (cntsD d)])) L1 = some (.lst [.bl (numD d), .bl (cntD d), .bl (cntsD d)]) := upd_same
    generalize upd H3 L1 (.lst [.bl (numD d), .bl (cntD d), .bl (cntsD d)]) = H4 at s4 g4 ⊢
    refine ⟨_, rfl, y, d, rfl, hq _ s4, _, rfl, y, d, rfl, hq _ s4, _, rfl, y, d, rfl, hq _ s4, nice_tup hn, fun H5 s5 => ⟨by show 3 ≤ sizeLine; decide, fun L2 hL2 => ?_⟩⟩
    have s6 : Same H5 (upd H5 L2 (.lst [.bl (numD d), .bl (cntD d), .bl (cntsD d)])) := Same.new hL2
    have g6 : (upd H5 L2 (.lst [.bl (numD d), .bl (cntD d), .bl (cntsD d)])) L2 = some (.lst [.bl (numD d), .bl (cntD d), .bl (cntsD d)]) := upd_same
    generalize upd H5 L2 (.lst [.bl (numD d), .bl (cntD d), .bl (cntsD d)]) = H6 at s6 g6 ⊢
    refine ⟨L2, _, rfl, b3_dq g6, rfl, by show (1 : Nat) ≤ 30; decide, b3_len _ _ _, _, rfl, L1, _, rfl, b3_dq (s6 _ _ (s5 _ _ g4)), rfl, by show (1 : Nat) ≤ 30; decide, b3_len _ _ _, rfl, _, rfl, iteNS rfl ?_⟩
    obtain ⟨a1, a2⟩ := beside ((s4.trans s5).trans s6) d2
    exact ⟨_, _, rfl, s2.trans a1, a2⟩
  · rintro σ H2 ⟨v1, v2, rfl, s2, d2⟩
    exact ⟨rfl, q H2 (s1.trans s2) d2⟩
end
end Xgd
namespace Xgd
open PySem PySem.Spec PyProof.Rows L2
theorem newS {a : Addr} {G : Hp} {o : HO} (ha : G a = none) : Same G (upd G a o) ∧ (upd G a o) a = some o := ⟨Same.new ha, upd_same⟩
theorem newX {H : Hp} {a d : Addr} {o1 o2 o3 : HO} (ha : H a = none) (hd : upd H a o1 d = none) (hda : d ≠ a) :
    Same H (upd (upd (upd H a o1) d o2) a o3) ∧ (upd (upd (upd H a o1) d o2) a o3) a = some o3 ∧ (upd (upd (upd H a o1) d o2) a o3) d = some o2 := by
  rw [upd_ne hda] at hd
  refine ⟨fun b u e => ?_, upd_same, by rw [upd_ne hda, upd_same]⟩
  rw [upd_ne (ne_of_none e ha), upd_ne (ne_of_none e hd), upd_ne (ne_of_none e ha)]
  exact e
/-- the answers of isinstance that the law asks of an error of the class at C -/
structure Kits (K : PySem.W.Frag) (cx C : Addr) (b1 b2 b3 b4 b5 b6 b7 : Bool) : Prop where
  x : XcC K C
  k1 : PySem.W.kitOne K (.ref C) (.ref cx) = some b1
  k2 : PySem.W.kitOne K (.ref C) (.type "ValueError") = some b2
  k3 : PySem.W.kitOne K (.ref C) (.type "IndexError") = some b3
  k4 : PySem.W.kitOne K (.ref C) (.type "KeyError") = some b4
  k5 : PySem.W.kitOne K (.ref C) (.type "RuntimeError") = some b5
  k6 : PySem.W.kitOne K (.ref C) (.type "OverflowError") = some b6
  k7 : PySem.W.kitOne K (.ref C) (.type "ArithmeticError") = some b7
structure TxB (mg : Str → Option Value) (cx : Addr) : Prop where
  mcx : mg "CrossError" = some (.ref cx)
  mValueError : mg "ValueError" = none
  mIndexError : mg "IndexError" = none
  mKeyError : mg "KeyError" = none
  mRuntimeError : mg "RuntimeError" = none
  mOverflowError : mg "OverflowError" = none
  mArithmeticError : mg "ArithmeticError" = none
abbrev wd (x : Str) (b : Bool) : List V := (List.replicate (if b = true then (1 : Int) else 0).toNat [V.str x]).flatten
def words (b1 b2 b3 b4 b5 b6 b7 : Bool) : List V := (((((wd "cross" b1 ++ wd "value" b2) ++ wd "index" b3) ++ wd "key" b4) ++ wd "runtime" b5) ++ wd "overflow" b6) ++ wd "arithmetic" b7
theorem wd_len (x : Str) (b : Bool) : (wd x b).length ≤ 1 := by
  cases b with
  | false => exact Nat.zero_le _
  | true => exact Nat.le_refl 1
def spRaised (K : PySem.W.Frag) (cx : Addr) : Sp := fun vs H Q _ => ∃ (a C : Addr) (b1 b2 b3 b4 b5 b6 b7 : Bool), vs = [.ref a] ∧ IsExc H a C ∧ Kits K cx C b1 b2 b3 b4 b5 b6 b7 ∧
  ∀ H' L, Same H H' → H L = none → H' L = some (.lst (words b1 b2 b3 b4 b5 b6 b7)) → Q (.ref L) H'
section
variable {P : Program} {w : World} {K : PySem.W.Frag} {mg : Str → Option Value} {base : Heap}
theorem scX : FnScope ["_law_error", "_law_found"] ["_law_error"] (defScope sRaised) := ⟨rfl, rfl, rfl, by decide +kernel, rfl, by decide +kernel, by decide +kernel⟩
theorem ok_raised {f cx : Addr} {fd : FuncData} (F : Fun K "_law_raised_by" "_law_raised_by" sRaised f fd) (T : TxA mg) (B : TxB mg cx) : FnOk P w K mg base CX0 1 f fd ["_law_error"] (spRaised K cx) := by
  refine F.ok scX (fun vs H Q E h => ?_) (fun cdv A outer s H vs Q E hr h => ?_)
  · obtain ⟨a, C, _, _, _, _, _, _, _, rfl, _⟩ := h
    rfl
  · obtain ⟨a, C, b1, b2, b3, b4, b5, b6, b7, rfl, hx, X, q⟩ := h
    refine ⟨_, pss_cons (ps_set (i := 1) scX.nd rfl (Or.inl rfl) (pe_op op_cat (pe_op op_rep (pe_lst (pa_cons pe_str pa_nil)) (pe_callTy call_int1 (by rfl) T.int (by decide +kernel) (pa_cons (pe_callB call_isX (by rfl) T.isi boot_isinstance (pa_cons (pv 0) (pa_cons (pe_glob (v := .ref cx) (by rfl) B.mcx rfl) pa_nil))) pa_nil)))
        (pe_op op_rep (pe_lst (pa_cons pe_str pa_nil)) (pe_callTy call_int1 (by rfl) T.int (by decide +kernel) (pa_cons (pe_callB call_isX (by rfl) T.isi boot_isinstance (pa_cons (pv 0) (pa_cons (pe_bltn (v := .ty "ValueError") (by rfl) B.mValueError (by decide +kernel) rfl) pa_nil))) pa_nil)))))
      (pss_cons (ps_set (i := 1) scX.nd rfl (Or.inl rfl) (pe_op op_cat (pe_op op_cat (pv 1) (pe_op op_rep (pe_lst (pa_cons pe_str pa_nil)) (pe_callTy call_int1 (by rfl) T.int (by decide +kernel) (pa_cons (pe_callB call_isX (by rfl) T.isi boot_isinstance (pa_cons (pv 0) (pa_cons (pe_bltn (v := .ty "IndexError") (by rfl) B.mIndexError (by decide +kernel) rfl) pa_nil))) pa_nil))))
        (pe_op op_rep (pe_lst (pa_cons pe_str pa_nil)) (pe_callTy call_int1 (by rfl) T.int (by decide +kernel) (pa_cons (pe_callB call_isX (by rfl) T.isi boot_isinstance (pa_cons (pv 0) (pa_cons (pe_bltn (v := .ty "KeyError") (by rfl) B.mKeyError (by decide +kernel) rfl) pa_nil))) pa_nil)))))
      (pss_cons (ps_set (i := 1) scX.nd rfl (Or.inl rfl) (pe_op op_cat (pv 1) (pe_op op_rep (pe_lst (pa_cons pe_str pa_nil)) (pe_callTy call_int1 (by rfl) T.int (by decide +kernel) (pa_cons (pe_callB call_isX (by rfl) T.isi boot_isinstance (pa_cons (pv 0) (pa_cons (pe_bltn (v := .ty "RuntimeError") (by rfl) B.mRuntimeError (by decide +kernel) rfl) pa_nil))) pa_nil)))))
      (pss_cons (ps_set (i := 1) scX.nd rfl (Or.inl rfl) (pe_op op_cat (pv 1) (pe_op op_rep (pe_lst (pa_cons pe_str pa_nil)) (pe_callTy call_int1 (by rfl) T.int (by decide +kernel) (pa_cons (pe_callB call_isX (by rfl) T.isi boot_isinstance (pa_cons (pv 0) (pa_cons (pe_bltn (v := .ty "OverflowError") (by rfl) B.mOverflowError (by decide +kernel) rfl) pa_nil))) pa_nil)))))
      (pss_one (ps_ret (pe_op op_cat (pv 1) (pe_op op_rep (pe_lst (pa_cons pe_str pa_nil)) (pe_callTy call_int1 (by rfl) T.int (by decide +kernel) (pa_cons (pe_callB call_isX (by rfl) T.isi boot_isinstance (pa_cons (pv 0) (pa_cons (pe_bltn (v := .ty "ArithmeticError") (by rfl) B.mArithmeticError (by decide +kernel) rfl) pa_nil))) pa_nil))))))))), ?_⟩
    have cH : Same H H := Same.refl H
    refine ⟨by show 1 ≤ sizeLine; decide, fun w0 hw0 => ?_⟩
    obtain ⟨sA0, gA0⟩ := newS (o := HO.lst [V.str "cross"]) hw0
    generalize upd H w0 (HO.lst [V.str "cross"]) = A0 at sA0 gA0 ⊢
    have cA0 : Same H A0 := cH.trans sA0
    refine ⟨_, rfl, a, C, .ref cx, _, b1, rfl, hx.same cA0, X.x, .own cx, X.k1, .inr ⟨_, rfl, w0, _, _, rfl, rfl, gA0, by cases b1 <;> decide, by cases b1 <;> decide, by cases b1 <;> decide, fun r0 hr0 => ?_⟩⟩
    obtain ⟨sB0, gB0⟩ := newS (o := HO.lst (wd "cross" b1)) hr0
    generalize upd A0 r0 (HO.lst (wd "cross" b1)) = B0 at sB0 gB0 ⊢
    have cB0 : Same H B0 := cA0.trans sB0
    refine ⟨by show 1 ≤ sizeLine; decide, fun w1 hw1 => ?_⟩
    obtain ⟨sA1, gA1⟩ := newS (o := HO.lst [V.str "value"]) hw1
    generalize upd B0 w1 (HO.lst [V.str "value"]) = A1 at sA1 gA1 ⊢
    have cA1 : Same H A1 := cB0.trans sA1
    refine ⟨_, rfl, a, C, .ty "ValueError", _, b2, rfl, hx.same cA1, X.x, .ty "ValueError", X.k2, .inr ⟨_, rfl, w1, _, _, rfl, rfl, gA1, by cases b2 <;> decide, by cases b2 <;> decide, by cases b2 <;> decide, fun r1 hr1 => ?_⟩⟩
    obtain ⟨sB1, gB1⟩ := newS (o := HO.lst (wd "value" b2)) hr1
    generalize upd A1 r1 (HO.lst (wd "value" b2)) = B1 at sB1 gB1 ⊢
    have cB1 : Same H B1 := cA1.trans sB1
    have z1 : (wd "cross" b1).length ≤ 1 := by (try simp only [List.length_append]); have := wd_len "cross" b1; omega
    have y1 := wd_len "value" b2
    refine ⟨r0, r1, _, _, rfl, rfl, sB1 _ _ (sA1 _ _ gB0), gB1, Nat.le_of_lt (small1000 (by omega)), fun k1 hk1 => ?_⟩
    obtain ⟨sC1, gC1⟩ := newS (o := HO.lst ((wd "cross" b1) ++ wd "value" b2)) hk1
    generalize upd B1 k1 (HO.lst ((wd "cross" b1) ++ wd "value" b2)) = C1 at sC1 gC1 ⊢
    have cC1 : Same H C1 := cB1.trans sC1
    refine ⟨_, rfl, ?_⟩
    refine ⟨by show 1 ≤ sizeLine; decide, fun w2 hw2 => ?_⟩
    obtain ⟨sA2, gA2⟩ := newS (o := HO.lst [V.str "index"]) hw2
    generalize upd C1 w2 (HO.lst [V.str "index"]) = A2 at sA2 gA2 ⊢
    have cA2 : Same H A2 := cC1.trans sA2
    refine ⟨_, rfl, a, C, .ty "IndexError", _, b3, rfl, hx.same cA2, X.x, .ty "IndexError", X.k3, .inr ⟨_, rfl, w2, _, _, rfl, rfl, gA2, by cases b3 <;> decide, by cases b3 <;> decide, by cases b3 <;> decide, fun r2 hr2 => ?_⟩⟩
    obtain ⟨sB2, gB2⟩ := newS (o := HO.lst (wd "index" b3)) hr2
    generalize upd A2 r2 (HO.lst (wd "index" b3)) = B2 at sB2 gB2 ⊢
    have cB2 : Same H B2 := cA2.trans sB2
    have z2 : (((wd "cross" b1) ++ wd "value" b2)).length ≤ 2 := by (try simp only [List.length_append]); have := wd_len "cross" b1; have := wd_len "value" b2; omega
    have y2 := wd_len "index" b3
    refine ⟨k1, r2, _, _, rfl, rfl, sB2 _ _ (sA2 _ _ gC1), gB2, Nat.le_of_lt (small1000 (by omega)), fun k2 hk2 => ?_⟩
    obtain ⟨sC2, gC2⟩ := newS (o := HO.lst ((((wd "cross" b1) ++ wd "value" b2)) ++ wd "index" b3)) hk2
    generalize upd B2 k2 (HO.lst ((((wd "cross" b1) ++ wd "value" b2)) ++ wd "index" b3)) = C2 at sC2 gC2 ⊢
    have cC2 : Same H C2 := cB2.trans sC2
    refine ⟨by show 1 ≤ sizeLine; decide, fun w3 hw3 => ?_⟩
    obtain ⟨sA3, gA3⟩ := newS (o := HO.lst [V.str "key"]) hw3
    generalize upd C2 w3 (HO.lst [V.str "key"]) = A3 at sA3 gA3 ⊢
    have cA3 : Same H A3 := cC2.trans sA3
    refine ⟨_, rfl, a, C, .ty "KeyError", _, b4, rfl, hx.same cA3, X.x, .ty "KeyError", X.k4, .inr ⟨_, rfl, w3, _, _, rfl, rfl, gA3, by cases b4 <;> decide, by cases b4 <;> decide, by cases b4 <;> decide, fun r3 hr3 => ?_⟩⟩
    obtain ⟨sB3, gB3⟩ := newS (o := HO.lst (wd "key" b4)) hr3
    generalize upd A3 r3 (HO.lst (wd "key" b4)) = B3 at sB3 gB3 ⊢
    have cB3 : Same H B3 := cA3.trans sB3
    have z3 : (((((wd "cross" b1) ++ wd "value" b2)) ++ wd "index" b3)).length ≤ 3 := by (try simp only [List.length_append]); have := wd_len "cross" b1; have := wd_len "value" b2; have := wd_len "index" b3; omega
    have y3 := wd_len "key" b4
    refine ⟨k2, r3, _, _, rfl, rfl, sB3 _ _ (sA3 _ _ gC2), gB3, Nat.le_of_lt (small1000 (by omega)), fun k3 hk3 => ?_⟩
    obtain ⟨sC3, gC3⟩ := newS (o := HO.lst ((((((wd "cross" b1) ++ wd "value" b2)) ++ wd "index" b3)) ++ wd "key" b4)) hk3
    generalize upd B3 k3 (HO.lst ((((((wd "cross" b1) ++ wd "value" b2)) ++ wd "index" b3)) ++ wd "key" b4)) = C3 at sC3 gC3 ⊢
    have cC3 : Same H C3 := cB3.trans sC3
    refine ⟨_, rfl, ?_⟩
    refine ⟨by show 1 ≤ sizeLine; decide, fun w4 hw4 => ?_⟩
    obtain ⟨sA4, gA4⟩ := newS (o := HO.lst [V.str "runtime"]) hw4
    generalize upd C3 w4 (HO.lst [V.str "runtime"]) = A4 at sA4 gA4 ⊢
    have cA4 : Same H A4 := cC3.trans sA4
    refine ⟨_, rfl, a, C, .ty "RuntimeError", _, b5, rfl, hx.same cA4, X.x, .ty "RuntimeError", X.k5, .inr ⟨_, rfl, w4, _, _, rfl, rfl, gA4, by cases b5 <;> decide, by cases b5 <;> decide, by cases b5 <;> decide, fun r4 hr4 => ?_⟩⟩
    obtain ⟨sB4, gB4⟩ := newS (o := HO.lst (wd "runtime" b5)) hr4
    generalize upd A4 r4 (HO.lst (wd "runtime" b5)) = B4 at sB4 gB4 ⊢
    have cB4 : Same H B4 := cA4.trans sB4
    have z4 : (((((((wd "cross" b1) ++ wd "value" b2)) ++ wd "index" b3)) ++ wd "key" b4)).length ≤ 4 := by (try simp only [List.length_append]); have := wd_len "cross" b1; have := wd_len "value" b2; have := wd_len "index" b3; have := wd_len "key" b4; omega
    have y4 := wd_len "runtime" b5
    refine ⟨k3, r4, _, _, rfl, rfl, sB4 _ _ (sA4 _ _ gC3), gB4, Nat.le_of_lt (small1000 (by omega)), fun k4 hk4 => ?_⟩
    obtain ⟨sC4, gC4⟩ := newS (o := HO.lst ((((((((wd "cross" b1) ++ wd "value" b2)) ++ wd "index" b3)) ++ wd "key" b4)) ++ wd "runtime" b5)) hk4
    generalize upd B4 k4 (HO.lst ((((((((wd "cross" b1) ++ wd "value" b2)) ++ wd "index" b3)) ++ wd "key" b4)) ++ wd "runtime" b5)) = C4 at sC4 gC4 ⊢
    have cC4 : Same H C4 := cB4.trans sC4
    refine ⟨_, rfl, ?_⟩
    refine ⟨by show 1 ≤ sizeLine; decide, fun w5 hw5 => ?_⟩
    obtain ⟨sA5, gA5⟩ := newS (o := HO.lst [V.str "overflow"]) hw5
    generalize upd C4 w5 (HO.lst [V.str "overflow"]) = A5 at sA5 gA5 ⊢
    have cA5 : Same H A5 := cC4.trans sA5
    refine ⟨_, rfl, a, C, .ty "OverflowError", _, b6, rfl, hx.same cA5, X.x, .ty "OverflowError", X.k6, .inr ⟨_, rfl, w5, _, _, rfl, rfl, gA5, by cases b6 <;> decide, by cases b6 <;> decide, by cases b6 <;> decide, fun r5 hr5 => ?_⟩⟩
    obtain ⟨sB5, gB5⟩ := newS (o := HO.lst (wd "overflow" b6)) hr5
    generalize upd A5 r5 (HO.lst (wd "overflow" b6)) = B5 at sB5 gB5 ⊢
    have cB5 : Same H B5 := cA5.trans sB5
    have z5 : (((((((((wd "cross" b1) ++ wd "value" b2)) ++ wd "index" b3)) ++ wd "key" b4)) ++ wd "runtime" b5)).length ≤ 5 := by (try simp only [List.length_append]); have := wd_len "cross" b1; have := wd_len "value" b2; have := wd_len "index" b3; have := wd_len "key" b4; have := wd_len "runtime" b5; omega
    have y5 := wd_len "overflow" b6
    refine ⟨k4, r5, _, _, rfl, rfl, sB5 _ _ (sA5 _ _ gC4), gB5, Nat.le_of_lt (small1000 (by omega)), fun k5 hk5 => ?_⟩
    obtain ⟨sC5, gC5⟩ := newS (o := HO.lst ((((((((((wd "cross" b1) ++ wd "value" b2)) ++ wd "index" b3)) ++ wd "key" b4)) ++ wd "runtime" b5)) ++ wd "overflow" b6)) hk5
    generalize upd B5 k5 (HO.lst ((((((((((wd "cross" b1) ++ wd "value" b2)) ++ wd "index" b3)) ++ wd "key" b4)) ++ wd "runtime" b5)) ++ wd "overflow" b6)) = C5 at sC5 gC5 ⊢
    have cC5 : Same H C5 := cB5.trans sC5
    refine ⟨_, rfl, ?_⟩
    refine ⟨by show 1 ≤ sizeLine; decide, fun w6 hw6 => ?_⟩
    obtain ⟨sA6, gA6⟩ := newS (o := HO.lst [V.str "arithmetic"]) hw6
    generalize upd C5 w6 (HO.lst [V.str "arithmetic"]) = A6 at sA6 gA6 ⊢
    have cA6 : Same H A6 := cC5.trans sA6
    refine ⟨_, rfl, a, C, .ty "ArithmeticError", _, b7, rfl, hx.same cA6, X.x, .ty "ArithmeticError", X.k7, .inr ⟨_, rfl, w6, _, _, rfl, rfl, gA6, by cases b7 <;> decide, by cases b7 <;> decide, by cases b7 <;> decide, fun r6 hr6 => ?_⟩⟩
    obtain ⟨sB6, gB6⟩ := newS (o := HO.lst (wd "arithmetic" b7)) hr6
    generalize upd A6 r6 (HO.lst (wd "arithmetic" b7)) = B6 at sB6 gB6 ⊢
    have cB6 : Same H B6 := cA6.trans sB6
    have z6 : (((((((((((wd "cross" b1) ++ wd "value" b2)) ++ wd "index" b3)) ++ wd "key" b4)) ++ wd "runtime" b5)) ++ wd "overflow" b6)).length ≤ 6 := by (try simp only [List.length_append]); have := wd_len "cross" b1; have := wd_len "value" b2; have := wd_len "index" b3; have := wd_len "key" b4; have := wd_len "runtime" b5; have := wd_len "overflow" b6; omega
    have y6 := wd_len "arithmetic" b7
    refine ⟨k5, r6, _, _, rfl, rfl, sB6 _ _ (sA6 _ _ gC5), gB6, Nat.le_of_lt (small1000 (by omega)), fun k6 hk6 => ?_⟩
    obtain ⟨sC6, gC6⟩ := newS (o := HO.lst ((((((((((((wd "cross" b1) ++ wd "value" b2)) ++ wd "index" b3)) ++ wd "key" b4)) ++ wd "runtime" b5)) ++ wd "overflow" b6)) ++ wd "arithmetic" b7)) hk6
    generalize upd B6 k6 (HO.lst ((((((((((((wd "cross" b1) ++ wd "value" b2)) ++ wd "index" b3)) ++ wd "key" b4)) ++ wd "runtime" b5)) ++ wd "overflow" b6)) ++ wd "arithmetic" b7)) = C6 at sC6 gC6 ⊢
    have cC6 : Same H C6 := cB6.trans sC6
    exact q C6 k6 cC6 (Same.free cB6 hk6) gC6
end
end Xgd
namespace Xgd
open PySem PySem.Spec PyProof.Rows L2
/-! ### the __init__ of an error that keeps one value -/
def spIni (f : Str) (C : Addr) : Sp := fun vs H Q _ => ∃ (a : Addr) (v : V), vs = [.ref a, v] ∧ H a = some (exo a C none) ∧ ∀ d, H d = none → d ≠ a → Q .non (upd (upd H d (exd d [(f, v)])) a (exo a C (some d)))
section
variable {P : Program} {w : World} {K : PySem.W.Frag} {mg : Str → Option Value} {base : Heap}
abbrev sIpe : Stmt := inClass (top 17) 0
theorem scpe : FnScope ["self", "number"] ["self", "number"] (defScope sIpe) := ⟨rfl, rfl, rfl, by decide +kernel, rfl, by decide +kernel, by decide +kernel⟩
theorem ok_pe {f C : Addr} {fd : FuncData} (F : Fun K "__init__" "ParseError.__init__" sIpe f fd) (X : ExB K C [.type "ValueError", .type "Exception", .type "BaseException", .type "object"] "ValueError.__new__") (tk : PySem.W.takerIn K C "number" = some none) :
    FnOk P w K mg base CX0 1 f fd ["self", "number"] (spIni "number" C) := by
  refine F.ok scpe (fun vs H Q E h => ?_) (fun cdv A outer s H vs Q E hr h => ?_)
  · obtain ⟨a, v, rfl, _⟩ := h
    rfl
  · obtain ⟨a, v, rfl, ha, q⟩ := h
    refine ⟨_, pss_one (ps_osB (B := "ValueError") (bmB := [.type "ValueError", .type "Exception", .type "BaseException", .type "object"]) (newId := "ValueError.__new__") PySem.F.store_ValueError (pv 0) (pv 1)), ?_⟩
    exact ⟨_, rfl, _, rfl, a, C, rfl, X, tk, ha, q⟩
abbrev sIxn : Stmt := inClass (top 18) 0
theorem scxn : FnScope ["self", "value"] ["self", "value"] (defScope sIxn) := ⟨rfl, rfl, rfl, by decide +kernel, rfl, by decide +kernel, by decide +kernel⟩
theorem ok_xn {f C : Addr} {fd : FuncData} (F : Fun K "__init__" "InvalidNumber.__init__" sIxn f fd) (X : ExB K C [.type "IndexError", .type "LookupError", .type "Exception", .type "BaseException", .type "object"] "IndexError.__new__") (tk : PySem.W.takerIn K C "value" = some none) :
    FnOk P w K mg base CX0 1 f fd ["self", "value"] (spIni "value" C) := by
  refine F.ok scxn (fun vs H Q E h => ?_) (fun cdv A outer s H vs Q E hr h => ?_)
  · obtain ⟨a, v, rfl, _⟩ := h
    rfl
  · obtain ⟨a, v, rfl, ha, q⟩ := h
    refine ⟨_, pss_one (ps_osB (B := "IndexError") (bmB := [.type "IndexError", .type "LookupError", .type "Exception", .type "BaseException", .type "object"]) (newId := "IndexError.__new__") PySem.F.store_IndexError (pv 0) (pv 1)), ?_⟩
    exact ⟨_, rfl, _, rfl, a, C, rfl, X, tk, ha, q⟩
abbrev sInu : Stmt := inClass (top 19) 0
theorem scnu : FnScope ["self", "asked"] ["self", "asked"] (defScope sInu) := ⟨rfl, rfl, rfl, by decide +kernel, rfl, by decide +kernel, by decide +kernel⟩
theorem ok_nu {f C : Addr} {fd : FuncData} (F : Fun K "__init__" "NothingToUndo.__init__" sInu f fd) (X : ExB K C [.type "RuntimeError", .type "Exception", .type "BaseException", .type "object"] "RuntimeError.__new__") (tk : PySem.W.takerIn K C "asked" = some none) :
    FnOk P w K mg base CX0 1 f fd ["self", "asked"] (spIni "asked" C) := by
  refine F.ok scnu (fun vs H Q E h => ?_) (fun cdv A outer s H vs Q E hr h => ?_)
  · obtain ⟨a, v, rfl, _⟩ := h
    rfl
  · obtain ⟨a, v, rfl, ha, q⟩ := h
    refine ⟨_, pss_one (ps_osB (B := "RuntimeError") (bmB := [.type "RuntimeError", .type "Exception", .type "BaseException", .type "object"]) (newId := "RuntimeError.__new__") PySem.F.store_RuntimeError (pv 0) (pv 1)), ?_⟩
    exact ⟨_, rfl, _, rfl, a, C, rfl, X, tk, ha, q⟩
abbrev sItm : Stmt := inClass (top 20) 0
theorem sctm : FnScope ["self", "limit"] ["self", "limit"] (defScope sItm) := ⟨rfl, rfl, rfl, by decide +kernel, rfl, by decide +kernel, by decide +kernel⟩
theorem ok_tm {f C : Addr} {fd : FuncData} (F : Fun K "__init__" "TooMany.__init__" sItm f fd) (X : ExB K C [.type "OverflowError", .type "ArithmeticError", .type "Exception", .type "BaseException", .type "object"] "OverflowError.__new__") (tk : PySem.W.takerIn K C "limit" = some none) :
    FnOk P w K mg base CX0 1 f fd ["self", "limit"] (spIni "limit" C) := by
  refine F.ok sctm (fun vs H Q E h => ?_) (fun cdv A outer s H vs Q E hr h => ?_)
  · obtain ⟨a, v, rfl, _⟩ := h
    rfl
  · obtain ⟨a, v, rfl, ha, q⟩ := h
    refine ⟨_, pss_one (ps_osB (B := "OverflowError") (bmB := [.type "OverflowError", .type "ArithmeticError", .type "Exception", .type "BaseException", .type "object"]) (newId := "OverflowError.__new__") PySem.F.store_OverflowError (pv 0) (pv 1)), ?_⟩
    exact ⟨_, rfl, _, rfl, a, C, rfl, X, tk, ha, q⟩
abbrev sIrf : Stmt := inClass (top 21) 0
theorem scrf : FnScope ["self", "pledge"] ["self", "pledge"] (defScope sIrf) := ⟨rfl, rfl, rfl, by decide +kernel, rfl, by decide +kernel, by decide +kernel⟩
theorem ok_rf {f C : Addr} {fd : FuncData} (F : Fun K "__init__" "Refused.__init__" sIrf f fd) (X : ExB K C [.type "ArithmeticError", .type "Exception", .type "BaseException", .type "object"] "ArithmeticError.__new__") (tk : PySem.W.takerIn K C "pledge" = some none) :
    FnOk P w K mg base CX0 1 f fd ["self", "pledge"] (spIni "pledge" C) := by
  refine F.ok scrf (fun vs H Q E h => ?_) (fun cdv A outer s H vs Q E hr h => ?_)
  · obtain ⟨a, v, rfl, _⟩ := h
    rfl
  · obtain ⟨a, v, rfl, ha, q⟩ := h
    refine ⟨_, pss_one (ps_osB (B := "ArithmeticError") (bmB := [.type "ArithmeticError", .type "Exception", .type "BaseException", .type "object"]) (newId := "ArithmeticError.__new__") PySem.F.store_ArithmeticError (pv 0) (pv 1)), ?_⟩
    exact ⟨_, rfl, _, rfl, a, C, rfl, X, tk, ha, q⟩
/-! ### one error of each class that takes a message -/
def spPlain (Cs : List Addr) : Sp := fun vs H Q _ => vs = [] ∧ ∀ H' L as, Same H H' → H L = none → H' L = some (.lst (as.map V.ref)) → Paired (fun a C => IsExc H' a C) as Cs → Q (.ref L) H'
structure TxP (K : PySem.W.Frag) (mg : Str → Option Value) (c0 c1 c2 c3 c4 c5 c6 c7 c8 c9 c10 c11 c12 c13 c14 : Addr) : Prop where
  m0 : mg "InvalidRow" = some (.ref c0)
  m1 : mg "InvalidDrawing" = some (.ref c1)
  m2 : mg "InvalidEnd" = some (.ref c2)
  m3 : mg "InvalidMove" = some (.ref c3)
  m4 : mg "InvalidCourse" = some (.ref c4)
  m5 : mg "InvalidWeb" = some (.ref c5)
  m6 : mg "InvalidShade" = some (.ref c6)
  m7 : mg "InvalidSmoothing" = some (.ref c7)
  m8 : mg "InvalidOrder" = some (.ref c8)
  m9 : mg "InvalidTree" = some (.ref c9)
  m10 : mg "InvalidPaper" = some (.ref c10)
  m11 : mg "InvalidPairing" = some (.ref c11)
  m12 : mg "InvalidMatching" = some (.ref c12)
  m13 : mg "InvalidColouring" = some (.ref c13)
  m14 : mg "InvalidOperation" = some (.ref c14)
  e : ∀ C ∈ [c0, c1, c2, c3, c4, c5, c6, c7, c8, c9, c10, c11, c12, c13, c14], PySem.W.excIn K C [.type "ValueError", .type "Exception", .type "BaseException", .type "object"] "ValueError.__new__" = true ∧ PySem.W.keepIn K (.ref C) = true
variable {c0 c1 c2 c3 c4 c5 c6 c7 c8 c9 c10 c11 c12 c13 c14 : Addr}
theorem scPl : FnScope ["_law_found"] [] (defScope sPlain) := ⟨rfl, rfl, rfl, by decide +kernel, rfl, by decide +kernel, by decide +kernel⟩
theorem ok_plain {Pr : Program} {f : Addr} {fd : FuncData} (F : Fun K "_law_plain_errors" "_law_plain_errors" sPlain f fd) (P : TxP K mg c0 c1 c2 c3 c4 c5 c6 c7 c8 c9 c10 c11 c12 c13 c14) : FnOk Pr w K mg base CX0 1 f fd [] (spPlain [c0, c1, c2, c3, c4, c5, c6, c7, c8, c9, c10, c11, c12, c13, c14]) := by
  refine F.ok scPl (fun vs H Q E h => ?_) (fun cdv A outer s H vs Q E hr h => ?_)
  · obtain ⟨rfl, _⟩ := h
    rfl
  · obtain ⟨rfl, q⟩ := h
    have e0 := P.e c0 (by simp)
    have e1 := P.e c1 (by simp)
    have e2 := P.e c2 (by simp)
    have e3 := P.e c3 (by simp)
    have e4 := P.e c4 (by simp)
    have e5 := P.e c5 (by simp)
    have e6 := P.e c6 (by simp)
    have e7 := P.e c7 (by simp)
    have e8 := P.e c8 (by simp)
    have e9 := P.e c9 (by simp)
    have e10 := P.e c10 (by simp)
    have e11 := P.e c11 (by simp)
    have e12 := P.e c12 (by simp)
    have e13 := P.e c13 (by simp)
    have e14 := P.e c14 (by simp)
    refine ⟨_, pss_cons (ps_set (i := 0) scPl.nd rfl (Or.inl rfl) (pe_lst (pa_cons (pe_exc1 PySem.F.excBase_ValueError e0.1 P.m0 e0.2 (by rfl) pe_str) (pa_cons (pe_exc1 PySem.F.excBase_ValueError e1.1 P.m1 e1.2 (by rfl) pe_str) (pa_cons (pe_exc1 PySem.F.excBase_ValueError e2.1 P.m2 e2.2 (by rfl) pe_str) (pa_cons (pe_exc1 PySem.F.excBase_ValueError e3.1 P.m3 e3.2 (by rfl) pe_str) (pa_cons (pe_exc1 PySem.F.excBase_ValueError e4.1 P.m4 e4.2 (by rfl) pe_str) (pa_cons (pe_exc1 PySem.F.excBase_ValueError e5.1 P.m5 e5.2 (by rfl) pe_str) pa_nil))))))))
      (pss_cons (ps_set (i := 0) scPl.nd rfl (Or.inl rfl) (pe_op op_cat (pv 0) (pe_lst (pa_cons (pe_exc1 PySem.F.excBase_ValueError e6.1 P.m6 e6.2 (by rfl) pe_str) (pa_cons (pe_exc1 PySem.F.excBase_ValueError e7.1 P.m7 e7.2 (by rfl) pe_str) (pa_cons (pe_exc1 PySem.F.excBase_ValueError e8.1 P.m8 e8.2 (by rfl) pe_str) (pa_cons (pe_exc1 PySem.F.excBase_ValueError e9.1 P.m9 e9.2 (by rfl) pe_str) (pa_cons (pe_exc1 PySem.F.excBase_ValueError e10.1 P.m10 e10.2 (by rfl) pe_str) pa_nil))))))))
      (pss_one (ps_ret (pe_op op_cat (pv 0) (pe_lst (pa_cons (pe_exc1 PySem.F.excBase_ValueError e11.1 P.m11 e11.2 (by rfl) pe_str) (pa_cons (pe_exc1 PySem.F.excBase_ValueError e12.1 P.m12 e12.2 (by rfl) pe_str) (pa_cons (pe_exc1 PySem.F.excBase_ValueError e13.1 P.m13 e13.2 (by rfl) pe_str) (pa_cons (pe_exc1 PySem.F.excBase_ValueError e14.1 P.m14 e14.2 (by rfl) pe_str) pa_nil))))))))), ?_⟩
    have cH : Same H H := Same.refl H
    intro x0 hx0
    obtain ⟨sE0, gE0⟩ := newS (o := ExO (.ref c0) x0) hx0
    generalize upd H x0 (ExO (.ref c0) x0) = E0 at sE0 gE0 ⊢
    have cE0 : Same H E0 := cH.trans sE0
    intro x1 hx1
    obtain ⟨sE1, gE1⟩ := newS (o := ExO (.ref c1) x1) hx1
    generalize upd E0 x1 (ExO (.ref c1) x1) = E1 at sE1 gE1 ⊢
    have cE1 : Same H E1 := cE0.trans sE1
    intro x2 hx2
    obtain ⟨sE2, gE2⟩ := newS (o := ExO (.ref c2) x2) hx2
    generalize upd E1 x2 (ExO (.ref c2) x2) = E2 at sE2 gE2 ⊢
    have cE2 : Same H E2 := cE1.trans sE2
    intro x3 hx3
    obtain ⟨sE3, gE3⟩ := newS (o := ExO (.ref c3) x3) hx3
    generalize upd E2 x3 (ExO (.ref c3) x3) = E3 at sE3 gE3 ⊢
    have cE3 : Same H E3 := cE2.trans sE3
    intro x4 hx4
    obtain ⟨sE4, gE4⟩ := newS (o := ExO (.ref c4) x4) hx4
    generalize upd E3 x4 (ExO (.ref c4) x4) = E4 at sE4 gE4 ⊢
    have cE4 : Same H E4 := cE3.trans sE4
    intro x5 hx5
    obtain ⟨sE5, gE5⟩ := newS (o := ExO (.ref c5) x5) hx5
    generalize upd E4 x5 (ExO (.ref c5) x5) = E5 at sE5 gE5 ⊢
    have cE5 : Same H E5 := cE4.trans sE5
    refine ⟨by show 6 ≤ sizeLine; decide, fun l0 hl0 => ?_⟩
    obtain ⟨sL0, gL0⟩ := newS (o := HO.lst [V.ref x0, V.ref x1, V.ref x2, V.ref x3, V.ref x4, V.ref x5]) hl0
    generalize upd E5 l0 (HO.lst [V.ref x0, V.ref x1, V.ref x2, V.ref x3, V.ref x4, V.ref x5]) = L0 at sL0 gL0 ⊢
    have cL0 : Same H L0 := cE5.trans sL0
    refine ⟨_, rfl, ?_⟩
    intro x6 hx6
    obtain ⟨sE6, gE6⟩ := newS (o := ExO (.ref c6) x6) hx6
    generalize upd L0 x6 (ExO (.ref c6) x6) = E6 at sE6 gE6 ⊢
    have cE6 : Same H E6 := cL0.trans sE6
    intro x7 hx7
    obtain ⟨sE7, gE7⟩ := newS (o := ExO (.ref c7) x7) hx7
    generalize upd E6 x7 (ExO (.ref c7) x7) = E7 at sE7 gE7 ⊢
    have cE7 : Same H E7 := cE6.trans sE7
    intro x8 hx8
    obtain ⟨sE8, gE8⟩ := newS (o := ExO (.ref c8) x8) hx8
    generalize upd E7 x8 (ExO (.ref c8) x8) = E8 at sE8 gE8 ⊢
    have cE8 : Same H E8 := cE7.trans sE8
    intro x9 hx9
    obtain ⟨sE9, gE9⟩ := newS (o := ExO (.ref c9) x9) hx9
    generalize upd E8 x9 (ExO (.ref c9) x9) = E9 at sE9 gE9 ⊢
    have cE9 : Same H E9 := cE8.trans sE9
    intro x10 hx10
    obtain ⟨sE10, gE10⟩ := newS (o := ExO (.ref c10) x10) hx10
    generalize upd E9 x10 (ExO (.ref c10) x10) = E10 at sE10 gE10 ⊢
    have cE10 : Same H E10 := cE9.trans sE10
    refine ⟨by show 5 ≤ sizeLine; decide, fun l1 hl1 => ?_⟩
    obtain ⟨sL1, gL1⟩ := newS (o := HO.lst [V.ref x6, V.ref x7, V.ref x8, V.ref x9, V.ref x10]) hl1
    generalize upd E10 l1 (HO.lst [V.ref x6, V.ref x7, V.ref x8, V.ref x9, V.ref x10]) = L1 at sL1 gL1 ⊢
    have cL1 : Same H L1 := cE10.trans sL1
    refine ⟨l0, l1, _, _, rfl, rfl, sL1 _ _ (sE10 _ _ (sE9 _ _ (sE8 _ _ (sE7 _ _ (sE6 _ _ (gL0)))))), gL1, by show 11 ≤ sizeLine; decide, fun l2 hl2 => ?_⟩
    obtain ⟨sL2, gL2⟩ := newS (o := HO.lst ([V.ref x0, V.ref x1, V.ref x2, V.ref x3, V.ref x4, V.ref x5] ++ [V.ref x6, V.ref x7, V.ref x8, V.ref x9, V.ref x10])) hl2
    generalize upd L1 l2 (HO.lst ([V.ref x0, V.ref x1, V.ref x2, V.ref x3, V.ref x4, V.ref x5] ++ [V.ref x6, V.ref x7, V.ref x8, V.ref x9, V.ref x10])) = L2 at sL2 gL2 ⊢
    have cL2 : Same H L2 := cL1.trans sL2
    refine ⟨_, rfl, ?_⟩
    intro x11 hx11
    obtain ⟨sE11, gE11⟩ := newS (o := ExO (.ref c11) x11) hx11
    generalize upd L2 x11 (ExO (.ref c11) x11) = E11 at sE11 gE11 ⊢
    have cE11 : Same H E11 := cL2.trans sE11
    intro x12 hx12
    obtain ⟨sE12, gE12⟩ := newS (o := ExO (.ref c12) x12) hx12
    generalize upd E11 x12 (ExO (.ref c12) x12) = E12 at sE12 gE12 ⊢
    have cE12 : Same H E12 := cE11.trans sE12
    intro x13 hx13
    obtain ⟨sE13, gE13⟩ := newS (o := ExO (.ref c13) x13) hx13
    generalize upd E12 x13 (ExO (.ref c13) x13) = E13 at sE13 gE13 ⊢
    have cE13 : Same H E13 := cE12.trans sE13
    intro x14 hx14
    obtain ⟨sE14, gE14⟩ := newS (o := ExO (.ref c14) x14) hx14
    generalize upd E13 x14 (ExO (.ref c14) x14) = E14 at sE14 gE14 ⊢
    have cE14 : Same H E14 := cE13.trans sE14
    refine ⟨by show 4 ≤ sizeLine; decide, fun l3 hl3 => ?_⟩
    obtain ⟨sL3, gL3⟩ := newS (o := HO.lst [V.ref x11, V.ref x12, V.ref x13, V.ref x14]) hl3
    generalize upd E14 l3 (HO.lst [V.ref x11, V.ref x12, V.ref x13, V.ref x14]) = L3 at sL3 gL3 ⊢
    have cL3 : Same H L3 := cE14.trans sL3
    refine ⟨l2, l3, _, _, rfl, rfl, sL3 _ _ (sE14 _ _ (sE13 _ _ (sE12 _ _ (sE11 _ _ (gL2))))), gL3, by show 15 ≤ sizeLine; decide, fun l4 hl4 => ?_⟩
    obtain ⟨sL4, gL4⟩ := newS (o := HO.lst (([V.ref x0, V.ref x1, V.ref x2, V.ref x3, V.ref x4, V.ref x5] ++ [V.ref x6, V.ref x7, V.ref x8, V.ref x9, V.ref x10]) ++ [V.ref x11, V.ref x12, V.ref x13, V.ref x14])) hl4
    generalize upd L3 l4 (HO.lst (([V.ref x0, V.ref x1, V.ref x2, V.ref x3, V.ref x4, V.ref x5] ++ [V.ref x6, V.ref x7, V.ref x8, V.ref x9, V.ref x10]) ++ [V.ref x11, V.ref x12, V.ref x13, V.ref x14])) = L4 at sL4 gL4 ⊢
    have cL4 : Same H L4 := cL3.trans sL4
    exact q L4 l4 [x0, x1, x2, x3, x4, x5, x6, x7, x8, x9, x10, x11, x12, x13, x14] cL4 (Same.free cL3 hl4) gL4 (.cons (.inl (sL4 _ _ (sL3 _ _ (sE14 _ _ (sE13 _ _ (sE12 _ _ (sE11 _ _ (sL2 _ _ (sL1 _ _ (sE10 _ _ (sE9 _ _ (sE8 _ _ (sE7 _ _ (sE6 _ _ (sL0 _ _ (sE5 _ _ (sE4 _ _ (sE3 _ _ (sE2 _ _ (sE1 _ _ (gE0))))))))))))))))))))) (.cons (.inl (sL4 _ _ (sL3 _ _ (sE14 _ _ (sE13 _ _ (sE12 _ _ (sE11 _ _ (sL2 _ _ (sL1 _ _ (sE10 _ _ (sE9 _ _ (sE8 _ _ (sE7 _ _ (sE6 _ _ (sL0 _ _ (sE5 _ _ (sE4 _ _ (sE3 _ _ (sE2 _ _ (gE1)))))))))))))))))))) (.cons (.inl (sL4 _ _ (sL3 _ _ (sE14 _ _ (sE13 _ _ (sE12 _ _ (sE11 _ _ (sL2 _ _ (sL1 _ _ (sE10 _ _ (sE9 _ _ (sE8 _ _ (sE7 _ _ (sE6 _ _ (sL0 _ _ (sE5 _ _ (sE4 _ _ (sE3 _ _ (gE2))))))))))))))))))) (.cons (.inl (sL4 _ _ (sL3 _ _ (sE14 _ _ (sE13 _ _ (sE12 _ _ (sE11 _ _ (sL2 _ _ (sL1 _ _ (sE10 _ _ (sE9 _ _ (sE8 _ _ (sE7 _ _ (sE6 _ _ (sL0 _ _ (sE5 _ _ (sE4 _ _ (gE3)))))))))))))))))) (.cons (.inl (sL4 _ _ (sL3 _ _ (sE14 _ _ (sE13 _ _ (sE12 _ _ (sE11 _ _ (sL2 _ _ (sL1 _ _ (sE10 _ _ (sE9 _ _ (sE8 _ _ (sE7 _ _ (sE6 _ _ (sL0 _ _ (sE5 _ _ (gE4))))))))))))))))) (.cons (.inl (sL4 _ _ (sL3 _ _ (sE14 _ _ (sE13 _ _ (sE12 _ _ (sE11 _ _ (sL2 _ _ (sL1 _ _ (sE10 _ _ (sE9 _ _ (sE8 _ _ (sE7 _ _ (sE6 _ _ (sL0 _ _ (gE5)))))))))))))))) (.cons (.inl (sL4 _ _ (sL3 _ _ (sE14 _ _ (sE13 _ _ (sE12 _ _ (sE11 _ _ (sL2 _ _ (sL1 _ _ (sE10 _ _ (sE9 _ _ (sE8 _ _ (sE7 _ _ (gE6)))))))))))))) (.cons (.inl (sL4 _ _ (sL3 _ _ (sE14 _ _ (sE13 _ _ (sE12 _ _ (sE11 _ _ (sL2 _ _ (sL1 _ _ (sE10 _ _ (sE9 _ _ (sE8 _ _ (gE7))))))))))))) (.cons (.inl (sL4 _ _ (sL3 _ _ (sE14 _ _ (sE13 _ _ (sE12 _ _ (sE11 _ _ (sL2 _ _ (sL1 _ _ (sE10 _ _ (sE9 _ _ (gE8)))))))))))) (.cons (.inl (sL4 _ _ (sL3 _ _ (sE14 _ _ (sE13 _ _ (sE12 _ _ (sE11 _ _ (sL2 _ _ (sL1 _ _ (sE10 _ _ (gE9))))))))))) (.cons (.inl (sL4 _ _ (sL3 _ _ (sE14 _ _ (sE13 _ _ (sE12 _ _ (sE11 _ _ (sL2 _ _ (sL1 _ _ (gE10)))))))))) (.cons (.inl (sL4 _ _ (sL3 _ _ (sE14 _ _ (sE13 _ _ (sE12 _ _ (gE11))))))) (.cons (.inl (sL4 _ _ (sL3 _ _ (sE14 _ _ (sE13 _ _ (gE12)))))) (.cons (.inl (sL4 _ _ (sL3 _ _ (sE14 _ _ (gE13))))) (.cons (.inl (sL4 _ _ (sL3 _ _ (gE14)))) .nil)))))))))))))))
end
end Xgd
namespace Xgd
open PySem PySem.Spec PyProof.Rows L2
/-- the places of the true ones among the first i -/
def hitsN (bs : List Bool) (i : Nat) : List V := ((List.range i).filter fun j => bs.getD j false).map fun j => V.int (j : Nat)
theorem hits_succ (bs : List Bool) (i : Nat) : hitsN bs (i + 1) = if bs.getD i false = true then hitsN bs i ++ [V.int (i : Nat)] else hitsN bs i := by
  unfold hitsN
  rw [List.range_succ, List.filter_append, List.map_append]
  by_cases h : bs.getD i false = true
  · rw [if_pos h, List.filter_cons_of_pos (p := fun j => bs.getD j false) h]
    rfl
  · rw [if_neg h, List.filter_cons_of_neg (p := fun j => bs.getD j false) h]
    exact List.append_nil _
theorem hits_len (bs : List Bool) (i : Nat) : (hitsN bs i).length ≤ i := by
  unfold hitsN
  rw [List.length_map]
  have := List.length_filter_le (fun j => bs.getD j false) (List.range i)
  rw [List.length_range] at this
  exact this
def spCaught (K : PySem.W.Frag) (Cs : List Addr) : Sp := fun vs H Q _ => ∃ (a C : Addr) (bs : List Bool), vs = [.ref a] ∧ IsExc H a C ∧ XcC K C ∧ Paired (fun D b => PySem.W.kitOne K (.ref C) (.ref D) = some b) Cs bs ∧
  ∀ H' L, Same H H' → H L = none → H' L = some (.lst (hitsN bs bs.length)) → Q (.ref L) H'
section
variable {P : Program} {w : World} {K : PySem.W.Frag} {mg : Str → Option Value} {base : Heap} {c0 c1 c2 c3 c4 c5 c6 c7 c8 c9 c10 c11 c12 c13 c14 : Addr}
theorem scCa : FnScope ["_law_error", "_law_found", "_law_at", "_law_told"] ["_law_error"] (defScope sCaught) := ⟨rfl, rfl, rfl, by decide +kernel, rfl, by decide +kernel, by decide +kernel⟩
theorem ok_caught {f : Addr} {fd : FuncData} (F : Fun K "_law_caught_by" "_law_caught_by" sCaught f fd) (T : TxA mg) (B : TxP K mg c0 c1 c2 c3 c4 c5 c6 c7 c8 c9 c10 c11 c12 c13 c14) : FnOk P w K mg base CX0 1 f fd ["_law_error"] (spCaught K [c0, c1, c2, c3, c4, c5, c6, c7, c8, c9, c10, c11, c12, c13, c14]) := by
  refine F.ok scCa (fun vs H Q E h => ?_) (fun cdv A outer s H vs Q E hr h => ?_)
  · obtain ⟨a, C, bs, rfl, _⟩ := h
    rfl
  · obtain ⟨a, C, bs, rfl, hx, X, kits, q⟩ := h
    obtain ⟨b0, bs0, rfl, k0, kits⟩ : ∃ b r, bs = b :: r ∧ PySem.W.kitOne K (.ref C) (.ref c0) = some b ∧ Paired (fun D b => PySem.W.kitOne K (.ref C) (.ref D) = some b) [c1, c2, c3, c4, c5, c6, c7, c8, c9, c10, c11, c12, c13, c14] r := by
      cases kits with
      | cons h t => exact ⟨_, _, rfl, h, t⟩
    obtain ⟨b1, bs1, rfl, k1, kits⟩ : ∃ b r, bs0 = b :: r ∧ PySem.W.kitOne K (.ref C) (.ref c1) = some b ∧ Paired (fun D b => PySem.W.kitOne K (.ref C) (.ref D) = some b) [c2, c3, c4, c5, c6, c7, c8, c9, c10, c11, c12, c13, c14] r := by
      cases kits with
      | cons h t => exact ⟨_, _, rfl, h, t⟩
    obtain ⟨b2, bs2, rfl, k2, kits⟩ : ∃ b r, bs1 = b :: r ∧ PySem.W.kitOne K (.ref C) (.ref c2) = some b ∧ Paired (fun D b => PySem.W.kitOne K (.ref C) (.ref D) = some b) [c3, c4, c5, c6, c7, c8, c9, c10, c11, c12, c13, c14] r := by
      cases kits with
      | cons h t => exact ⟨_, _, rfl, h, t⟩
    obtain ⟨b3, bs3, rfl, k3, kits⟩ : ∃ b r, bs2 = b :: r ∧ PySem.W.kitOne K (.ref C) (.ref c3) = some b ∧ Paired (fun D b => PySem.W.kitOne K (.ref C) (.ref D) = some b) [c4, c5, c6, c7, c8, c9, c10, c11, c12, c13, c14] r := by
      cases kits with
      | cons h t => exact ⟨_, _, rfl, h, t⟩
    obtain ⟨b4, bs4, rfl, k4, kits⟩ : ∃ b r, bs3 = b :: r ∧ PySem.W.kitOne K (.ref C) (.ref c4) = some b ∧ Paired (fun D b => PySem.W.kitOne K (.ref C) (.ref D) = some b) [c5, c6, c7, c8, c9, c10, c11, c12, c13, c14] r := by
      cases kits with
      | cons h t => exact ⟨_, _, rfl, h, t⟩
    obtain ⟨b5, bs5, rfl, k5, kits⟩ : ∃ b r, bs4 = b :: r ∧ PySem.W.kitOne K (.ref C) (.ref c5) = some b ∧ Paired (fun D b => PySem.W.kitOne K (.ref C) (.ref D) = some b) [c6, c7, c8, c9, c10, c11, c12, c13, c14] r := by
      cases kits with
      | cons h t => exact ⟨_, _, rfl, h, t⟩
    obtain ⟨b6, bs6, rfl, k6, kits⟩ : ∃ b r, bs5 = b :: r ∧ PySem.W.kitOne K (.ref C) (.ref c6) = some b ∧ Paired (fun D b => PySem.W.kitOne K (.ref C) (.ref D) = some b) [c7, c8, c9, c10, c11, c12, c13, c14] r := by
      cases kits with
      | cons h t => exact ⟨_, _, rfl, h, t⟩
    obtain ⟨b7, bs7, rfl, k7, kits⟩ : ∃ b r, bs6 = b :: r ∧ PySem.W.kitOne K (.ref C) (.ref c7) = some b ∧ Paired (fun D b => PySem.W.kitOne K (.ref C) (.ref D) = some b) [c8, c9, c10, c11, c12, c13, c14] r := by
      cases kits with
      | cons h t => exact ⟨_, _, rfl, h, t⟩
    obtain ⟨b8, bs8, rfl, k8, kits⟩ : ∃ b r, bs7 = b :: r ∧ PySem.W.kitOne K (.ref C) (.ref c8) = some b ∧ Paired (fun D b => PySem.W.kitOne K (.ref C) (.ref D) = some b) [c9, c10, c11, c12, c13, c14] r := by
      cases kits with
      | cons h t => exact ⟨_, _, rfl, h, t⟩
    obtain ⟨b9, bs9, rfl, k9, kits⟩ : ∃ b r, bs8 = b :: r ∧ PySem.W.kitOne K (.ref C) (.ref c9) = some b ∧ Paired (fun D b => PySem.W.kitOne K (.ref C) (.ref D) = some b) [c10, c11, c12, c13, c14] r := by
      cases kits with
      | cons h t => exact ⟨_, _, rfl, h, t⟩
    obtain ⟨b10, bs10, rfl, k10, kits⟩ : ∃ b r, bs9 = b :: r ∧ PySem.W.kitOne K (.ref C) (.ref c10) = some b ∧ Paired (fun D b => PySem.W.kitOne K (.ref C) (.ref D) = some b) [c11, c12, c13, c14] r := by
      cases kits with
      | cons h t => exact ⟨_, _, rfl, h, t⟩
    obtain ⟨b11, bs11, rfl, k11, kits⟩ : ∃ b r, bs10 = b :: r ∧ PySem.W.kitOne K (.ref C) (.ref c11) = some b ∧ Paired (fun D b => PySem.W.kitOne K (.ref C) (.ref D) = some b) [c12, c13, c14] r := by
      cases kits with
      | cons h t => exact ⟨_, _, rfl, h, t⟩
    obtain ⟨b12, bs12, rfl, k12, kits⟩ : ∃ b r, bs11 = b :: r ∧ PySem.W.kitOne K (.ref C) (.ref c12) = some b ∧ Paired (fun D b => PySem.W.kitOne K (.ref C) (.ref D) = some b) [c13, c14] r := by
      cases kits with
      | cons h t => exact ⟨_, _, rfl, h, t⟩
    obtain ⟨b13, bs13, rfl, k13, kits⟩ : ∃ b r, bs12 = b :: r ∧ PySem.W.kitOne K (.ref C) (.ref c13) = some b ∧ Paired (fun D b => PySem.W.kitOne K (.ref C) (.ref D) = some b) [c14] r := by
      cases kits with
      | cons h t => exact ⟨_, _, rfl, h, t⟩
    obtain ⟨b14, bs14, rfl, k14, kits⟩ : ∃ b r, bs13 = b :: r ∧ PySem.W.kitOne K (.ref C) (.ref c14) = some b ∧ Paired (fun D b => PySem.W.kitOne K (.ref C) (.ref D) = some b) [] r := by
      cases kits with
      | cons h t => exact ⟨_, _, rfl, h, t⟩
    cases kits
    refine ⟨_, (pss_cons (ps_set (i := 1) scCa.nd rfl (Or.inl rfl) (pe_lst (pa_cons (pe_callB call_isX (by rfl) T.isi boot_isinstance (pa_cons (pv 0) (pa_cons (pe_glob (v := .ref c0) (by rfl) B.m0 rfl) pa_nil))) (pa_cons (pe_callB call_isX (by rfl) T.isi boot_isinstance (pa_cons (pv 0) (pa_cons (pe_glob (v := .ref c1) (by rfl) B.m1 rfl) pa_nil))) (pa_cons (pe_callB call_isX (by rfl) T.isi boot_isinstance (pa_cons (pv 0) (pa_cons (pe_glob (v := .ref c2) (by rfl) B.m2 rfl) pa_nil))) pa_nil)))))
      (pss_cons (ps_set (i := 1) scCa.nd rfl (Or.inl rfl) (pe_op op_cat (pv 1) (pe_lst (pa_cons (pe_callB call_isX (by rfl) T.isi boot_isinstance (pa_cons (pv 0) (pa_cons (pe_glob (v := .ref c3) (by rfl) B.m3 rfl) pa_nil))) (pa_cons (pe_callB call_isX (by rfl) T.isi boot_isinstance (pa_cons (pv 0) (pa_cons (pe_glob (v := .ref c4) (by rfl) B.m4 rfl) pa_nil))) (pa_cons (pe_callB call_isX (by rfl) T.isi boot_isinstance (pa_cons (pv 0) (pa_cons (pe_glob (v := .ref c5) (by rfl) B.m5 rfl) pa_nil))) pa_nil))))))
      (pss_cons (ps_set (i := 1) scCa.nd rfl (Or.inl rfl) (pe_op op_cat (pv 1) (pe_lst (pa_cons (pe_callB call_isX (by rfl) T.isi boot_isinstance (pa_cons (pv 0) (pa_cons (pe_glob (v := .ref c6) (by rfl) B.m6 rfl) pa_nil))) (pa_cons (pe_callB call_isX (by rfl) T.isi boot_isinstance (pa_cons (pv 0) (pa_cons (pe_glob (v := .ref c7) (by rfl) B.m7 rfl) pa_nil))) pa_nil)))))
      (pss_cons (ps_set (i := 1) scCa.nd rfl (Or.inl rfl) (pe_op op_cat (pv 1) (pe_lst (pa_cons (pe_callB call_isX (by rfl) T.isi boot_isinstance (pa_cons (pv 0) (pa_cons (pe_glob (v := .ref c8) (by rfl) B.m8 rfl) pa_nil))) (pa_cons (pe_callB call_isX (by rfl) T.isi boot_isinstance (pa_cons (pv 0) (pa_cons (pe_glob (v := .ref c9) (by rfl) B.m9 rfl) pa_nil))) (pa_cons (pe_callB call_isX (by rfl) T.isi boot_isinstance (pa_cons (pv 0) (pa_cons (pe_glob (v := .ref c10) (by rfl) B.m10 rfl) pa_nil))) pa_nil))))))
      (pss_cons (ps_set (i := 1) scCa.nd rfl (Or.inl rfl) (pe_op op_cat (pv 1) (pe_lst (pa_cons (pe_callB call_isX (by rfl) T.isi boot_isinstance (pa_cons (pv 0) (pa_cons (pe_glob (v := .ref c11) (by rfl) B.m11 rfl) pa_nil))) (pa_cons (pe_callB call_isX (by rfl) T.isi boot_isinstance (pa_cons (pv 0) (pa_cons (pe_glob (v := .ref c12) (by rfl) B.m12 rfl) pa_nil))) pa_nil)))))
      (pss_cons (ps_set (i := 1) scCa.nd rfl (Or.inl rfl) (pe_op op_cat (pv 1) (pe_lst (pa_cons (pe_callB call_isX (by rfl) T.isi boot_isinstance (pa_cons (pv 0) (pa_cons (pe_glob (v := .ref c13) (by rfl) B.m13 rfl) pa_nil))) (pa_cons (pe_callB call_isX (by rfl) T.isi boot_isinstance (pa_cons (pv 0) (pa_cons (pe_glob (v := .ref c14) (by rfl) B.m14 rfl) pa_nil))) pa_nil)))))
      (pss_one (ps_ret (pe_lc (own := [("_law_at", 2), ("_law_told", 3)]) (g := gTup K 2 (gCons (gName 2) (gCons (gName 3) gNil))) rfl scCa.nd (pi_enum (by rfl) T.enum (pa_cons (pv 1) pa_nil)) (blkOk_by (N := ["_law_error", "_law_found", "_law_at", "_law_told"]) (sc := defScope sCaught) (by decide +kernel))
        (fun _ _ _ _ _ => by exact pg_tup rfl (pgs_cons (pg_name (i := 2) scCa.nd rfl (Or.inl rfl)) (pgs_cons (pg_name (i := 3) scCa.nd rfl (Or.inl rfl)) pgs_nil))) (fun _ _ _ _ _ => pts_one (pt_val (pv 3))) (fun _ _ _ _ _ => pv 2)))))))))), ?_⟩
    have cH : Same H H := Same.refl H
    refine ⟨_, rfl, a, C, .ref c0, _, b0, rfl, hx.same cH, X, .own c0, k0, _, rfl, a, C, .ref c1, _, b1, rfl, hx.same cH, X, .own c1, k1, _, rfl, a, C, .ref c2, _, b2, rfl, hx.same cH, X, .own c2, k2, by show 3 ≤ sizeLine; decide, fun l0 hl0 => ?_⟩
    obtain ⟨sA0, gA0⟩ := newS (o := HO.lst [V.bl b0, V.bl b1, V.bl b2]) hl0
    generalize upd H l0 (HO.lst [V.bl b0, V.bl b1, V.bl b2]) = A0 at sA0 gA0 ⊢
    have cA0 : Same H A0 := cH.trans sA0
    refine ⟨_, rfl, _, rfl, a, C, .ref c3, _, b3, rfl, hx.same cA0, X, .own c3, k3, _, rfl, a, C, .ref c4, _, b4, rfl, hx.same cA0, X, .own c4, k4, _, rfl, a, C, .ref c5, _, b5, rfl, hx.same cA0, X, .own c5, k5, by show 3 ≤ sizeLine; decide, fun l1 hl1 => ?_⟩
    obtain ⟨sA1, gA1⟩ := newS (o := HO.lst [V.bl b3, V.bl b4, V.bl b5]) hl1
    generalize upd A0 l1 (HO.lst [V.bl b3, V.bl b4, V.bl b5]) = A1 at sA1 gA1 ⊢
    have cA1 : Same H A1 := cA0.trans sA1
    refine ⟨l0, l1, _, _, rfl, rfl, sA1 _ _ gA0, gA1, by show 6 ≤ sizeLine; decide, fun r1 hr1 => ?_⟩
    obtain ⟨sB1, gB1⟩ := newS (o := HO.lst (([V.bl b0, V.bl b1, V.bl b2] ++ [V.bl b3, V.bl b4, V.bl b5]))) hr1
    generalize upd A1 r1 (HO.lst (([V.bl b0, V.bl b1, V.bl b2] ++ [V.bl b3, V.bl b4, V.bl b5]))) = B1 at sB1 gB1 ⊢
    have cB1 : Same H B1 := cA1.trans sB1
    refine ⟨_, rfl, _, rfl, a, C, .ref c6, _, b6, rfl, hx.same cB1, X, .own c6, k6, _, rfl, a, C, .ref c7, _, b7, rfl, hx.same cB1, X, .own c7, k7, by show 2 ≤ sizeLine; decide, fun l2 hl2 => ?_⟩
    obtain ⟨sA2, gA2⟩ := newS (o := HO.lst [V.bl b6, V.bl b7]) hl2
    generalize upd B1 l2 (HO.lst [V.bl b6, V.bl b7]) = A2 at sA2 gA2 ⊢
    have cA2 : Same H A2 := cB1.trans sA2
    refine ⟨r1, l2, _, _, rfl, rfl, sA2 _ _ gB1, gA2, by show 8 ≤ sizeLine; decide, fun r2 hr2 => ?_⟩
    obtain ⟨sB2, gB2⟩ := newS (o := HO.lst ((([V.bl b0, V.bl b1, V.bl b2] ++ [V.bl b3, V.bl b4, V.bl b5]) ++ [V.bl b6, V.bl b7]))) hr2
    generalize upd A2 r2 (HO.lst ((([V.bl b0, V.bl b1, V.bl b2] ++ [V.bl b3, V.bl b4, V.bl b5]) ++ [V.bl b6, V.bl b7]))) = B2 at sB2 gB2 ⊢
    have cB2 : Same H B2 := cA2.trans sB2
    refine ⟨_, rfl, _, rfl, a, C, .ref c8, _, b8, rfl, hx.same cB2, X, .own c8, k8, _, rfl, a, C, .ref c9, _, b9, rfl, hx.same cB2, X, .own c9, k9, _, rfl, a, C, .ref c10, _, b10, rfl, hx.same cB2, X, .own c10, k10, by show 3 ≤ sizeLine; decide, fun l3 hl3 => ?_⟩
    obtain ⟨sA3, gA3⟩ := newS (o := HO.lst [V.bl b8, V.bl b9, V.bl b10]) hl3
    generalize upd B2 l3 (HO.lst [V.bl b8, V.bl b9, V.bl b10]) = A3 at sA3 gA3 ⊢
    have cA3 : Same H A3 := cB2.trans sA3
    refine ⟨r2, l3, _, _, rfl, rfl, sA3 _ _ gB2, gA3, by show 11 ≤ sizeLine; decide, fun r3 hr3 => ?_⟩
    obtain ⟨sB3, gB3⟩ := newS (o := HO.lst (((([V.bl b0, V.bl b1, V.bl b2] ++ [V.bl b3, V.bl b4, V.bl b5]) ++ [V.bl b6, V.bl b7]) ++ [V.bl b8, V.bl b9, V.bl b10]))) hr3
    generalize upd A3 r3 (HO.lst (((([V.bl b0, V.bl b1, V.bl b2] ++ [V.bl b3, V.bl b4, V.bl b5]) ++ [V.bl b6, V.bl b7]) ++ [V.bl b8, V.bl b9, V.bl b10]))) = B3 at sB3 gB3 ⊢
    have cB3 : Same H B3 := cA3.trans sB3
    refine ⟨_, rfl, _, rfl, a, C, .ref c11, _, b11, rfl, hx.same cB3, X, .own c11, k11, _, rfl, a, C, .ref c12, _, b12, rfl, hx.same cB3, X, .own c12, k12, by show 2 ≤ sizeLine; decide, fun l4 hl4 => ?_⟩
    obtain ⟨sA4, gA4⟩ := newS (o := HO.lst [V.bl b11, V.bl b12]) hl4
    generalize upd B3 l4 (HO.lst [V.bl b11, V.bl b12]) = A4 at sA4 gA4 ⊢
    have cA4 : Same H A4 := cB3.trans sA4
    refine ⟨r3, l4, _, _, rfl, rfl, sA4 _ _ gB3, gA4, by show 13 ≤ sizeLine; decide, fun r4 hr4 => ?_⟩
    obtain ⟨sB4, gB4⟩ := newS (o := HO.lst ((((([V.bl b0, V.bl b1, V.bl b2] ++ [V.bl b3, V.bl b4, V.bl b5]) ++ [V.bl b6, V.bl b7]) ++ [V.bl b8, V.bl b9, V.bl b10]) ++ [V.bl b11, V.bl b12]))) hr4
    generalize upd A4 r4 (HO.lst ((((([V.bl b0, V.bl b1, V.bl b2] ++ [V.bl b3, V.bl b4, V.bl b5]) ++ [V.bl b6, V.bl b7]) ++ [V.bl b8, V.bl b9, V.bl b10]) ++ [V.bl b11, V.bl b12]))) = B4 at sB4 gB4 ⊢
    have cB4 : Same H B4 := cA4.trans sB4
    refine ⟨_, rfl, _, rfl, a, C, .ref c13, _, b13, rfl, hx.same cB4, X, .own c13, k13, _, rfl, a, C, .ref c14, _, b14, rfl, hx.same cB4, X, .own c14, k14, by show 2 ≤ sizeLine; decide, fun l5 hl5 => ?_⟩
    obtain ⟨sA5, gA5⟩ := newS (o := HO.lst [V.bl b13, V.bl b14]) hl5
    generalize upd B4 l5 (HO.lst [V.bl b13, V.bl b14]) = A5 at sA5 gA5 ⊢
    have cA5 : Same H A5 := cB4.trans sA5
    refine ⟨r4, l5, _, _, rfl, rfl, sA5 _ _ gB4, gA5, by show 15 ≤ sizeLine; decide, fun r5 hr5 => ?_⟩
    obtain ⟨sB5, gB5⟩ := newS (o := HO.lst (((((([V.bl b0, V.bl b1, V.bl b2] ++ [V.bl b3, V.bl b4, V.bl b5]) ++ [V.bl b6, V.bl b7]) ++ [V.bl b8, V.bl b9, V.bl b10]) ++ [V.bl b11, V.bl b12]) ++ [V.bl b13, V.bl b14]))) hr5
    generalize upd A5 r5 (HO.lst (((((([V.bl b0, V.bl b1, V.bl b2] ++ [V.bl b3, V.bl b4, V.bl b5]) ++ [V.bl b6, V.bl b7]) ++ [V.bl b8, V.bl b9, V.bl b10]) ++ [V.bl b11, V.bl b12]) ++ [V.bl b13, V.bl b14]))) = B5 at sB5 gB5 ⊢
    have cB5 : Same H B5 := cA5.trans sB5
    have gL : B5 r5 = some (.lst ([b0, b1, b2, b3, b4, b5, b6, b7, b8, b9, b10, b11, b12, b13, b14].map V.bl)) := gB5
    refine ⟨_, rfl, r5, _, rfl, SqL.of gL, fun D hD => ?_⟩
    have nD : ∀ b o, B5 b = some o → b ≠ D := fun b o e => ne_of_none e hD
    refine lc_it (walk_enum (K := K) (a := r5) (xs := [b0, b1, b2, b3, b4, b5, b6, b7, b8, b9, b10, b11, b12, b13, b14].map V.bl)) (fun i H' => Same B5 H' ∧ H' D = some (.lst (hitsN [b0, b1, b2, b3, b4, b5, b6, b7, b8, b9, b10, b11, b12, b13, b14] i))) ⟨Same.new hD, upd_same⟩ (fun i H' _ ⟨z, _⟩ => SqL.of (z _ _ gL)) ?_ ?_
    · rintro i x H1 H2 hi ⟨z1, z2⟩ ⟨T2, x1, x2, rfl, hT, rfl, e1, e2⟩
      cases e1
      obtain ⟨b, hb, rfl⟩ : ∃ b, [b0, b1, b2, b3, b4, b5, b6, b7, b8, b9, b10, b11, b12, b13, b14][i]? = some b ∧ x2 = V.bl b := by
        have e2 : ([b0, b1, b2, b3, b4, b5, b6, b7, b8, b9, b10, b11, b12, b13, b14].map V.bl)[i]? = some x2 := e2
        rw [List.getElem?_map] at e2
        obtain ⟨b, h1, h2⟩ := Option.map_eq_some_iff.mp e2
        exact ⟨b, h1, h2.symm⟩
      have hg : [b0, b1, b2, b3, b4, b5, b6, b7, b8, b9, b10, b11, b12, b13, b14].getD i false = b := by rw [List.getD_eq_getElem?_getD, hb]; rfl
      have hnT : D ≠ T2 := ne_of_none z2 hT
      refine ⟨T2, [V.int (i : Nat), V.bl b], rfl, SqT.of upd_same, rfl, _, _, rfl, _, _, rfl, rfl, rfl, _, rfl, _, rfl, ?_⟩
      cases b with
      | true =>
        refine iteT ⟨_, rfl, hitsN [b0, b1, b2, b3, b4, b5, b6, b7, b8, b9, b10, b11, b12, b13, b14] i, by rw [upd_ne hnT]; exact z2, small1000 (by have := hits_len [b0, b1, b2, b3, b4, b5, b6, b7, b8, b9, b10, b11, b12, b13, b14] i; have hi' : i < 15 := hi; omega), fun b o e => ?_, ?_⟩
        · rw [upd_ne (nD b o e)]
          exact (z1.trans (Same.new hT)) _ _ e
        · rw [upd_same, hits_succ, hg]
          rfl
      | false =>
        refine iteF ⟨z1.trans (Same.new hT), ?_⟩
        rw [upd_ne hnT, hits_succ, hg]
        exact z2
    · rintro H2 ⟨z1, z2⟩
      exact q H2 D (cB5.trans z1) (Same.free cB5 hD) z2
end
end Xgd
namespace Xgd
open PySem PySem.Spec PyProof.Rows L2
theorem ne_same {K : PySem.W.Frag} {H : Hp} {x y : V} {d : PyData} {Q : VK} (h1 : Dp K H x d) (h2 : Dp K H y d) (hs : SeqAt.shaped d = true) (h : Q (.bl false) H) : rNeD K x y H Q :=
  ⟨d, d, h1, h2, hs, hs, by rw [SeqAt.eqv_refl _ (SeqAt.canLay_of_shaped hs)]; exact h⟩
/-- an own error class with an __init__ that keeps one value, its def at fI -/
structure OwnE (K : PySem.W.Frag) (mg : Str → Option Value) (nm f : Str) (bmB : List Value) (newId : String) (C fI : Addr) (fd : FuncData) : Prop where
  X : ExB K C bmB newId
  m : mg nm = some (.ref C)
  iC : PySem.W.findIn K (.ref C) "__init__" = some (some (.ref fI))
  tI : PySem.W.typeIn K (.ref fI) = some (.type "function")
  b : Binds K fd ["self", f] []
  no : PySem.W.findIn K (.ref C) f = some none
theorem look1 (f : Str) (v : V) : List.lookup f [(f, v)] = some v := by simp [List.lookup]
def bsAt (i : Nat) : List Bool := (List.range 15).map fun j => j == i
theorem hits_at : ∀ i : Nat, i < 15 → hitsN (bsAt i) (bsAt i).length = [V.int (i : Nat)] := by
  intro i hi
  have : ∀ i ∈ List.range 15, hitsN (bsAt i) (bsAt i).length = [V.int (i : Nat)] := by decide +kernel
  exact this i (List.mem_range.mpr hi)
theorem five_nice {d : PyData} (h : niceB d = true) : (PyData.list [d, d, d, d, d]).showable = true ∧ (PyData.list [d, d, d, d, d]).depth ≤ 30 ∧ (PyData.list [d, d, d, d, d]).shown.length ≤ sizeLine := by
  unfold niceB at h
  simp only [Bool.and_eq_true, decide_eq_true_eq] at h
  obtain ⟨⟨⟨⟨_, h2⟩, h3⟩, h4⟩, h5⟩ := h
  refine ⟨?_, ?_, ?_⟩
  · show (d.showable && (d.showable && (d.showable && (d.showable && (d.showable && true))))) = true
    rw [h2]
    rfl
  · simp only [PyData.depth, PyData.depthAll]
    omega
  · have e : (PyData.list [d, d, d, d, d]).leavesShort 64 = true := by
      show (d.leavesShort 64 && (d.leavesShort 64 && (d.leavesShort 64 && (d.leavesShort 64 && (d.leavesShort 64 && true))))) = true
      rw [h4]
      rfl
    have z := PyData.shown_le 64 (by decide) _ e
    have ew : (PyData.list [d, d, d, d, d]).weight ≤ 10010 := by
      simp only [PyData.weight, PyData.weightAll]
      omega
    rw [sizeLine_eq]
    omega
section
variable {P : Program} {w : World} {K : PySem.W.Frag} {mg : Str → Option Value} {base : Heap} {c0 c1 c2 c3 c4 c5 c6 c7 c8 c9 c10 c11 c12 c13 c14 cx : Addr}
structure TxE (K : PySem.W.Frag) (mg : Str → Option Value) (Cs : List Addr) (cx pe xn nu tm rf : Addr) : Prop where
  k7 : ∀ C ∈ Cs, Kits K cx C true true false false false false false
  k15 : ∀ i C, Cs[i]? = some C → Paired (fun D b => PySem.W.kitOne K (.ref C) (.ref D) = some b) Cs (bsAt i)
  kp : ∀ C ∈ Cs, PySem.W.kitOne K (.ref C) (.ref pe) = some false
  kpe : Kits K cx pe true true false false false false false
  kxn : Kits K cx xn false false true false false false false
  knu : Kits K cx nu false false false false true false false
  ktm : Kits K cx tm false false false false false true true
  krf : Kits K cx rf false false false false false false true
theorem scE : FnScope ["_law_dice_here", "_law_at", "_law_error", "_law_value", "_law_told", "_law_kept"] ["_law_dice_here"] (defScope sErr) := ⟨rfl, rfl, rfl, by decide +kernel, rfl, by decide +kernel, by decide +kernel⟩
theorem paired_get {α β : Type} {R : α → β → Prop} : ∀ {xs : List α} {ys : List β} {i : Nat} {x : α}, Paired R xs ys → xs[i]? = some x → ∃ y, ys[i]? = some y ∧ R x y
  | _, _, _, _, .nil, e => by simp at e
  | _, _, 0, _, .cons r _, e => by
    simp at e
    subst e
    exact ⟨_, rfl, r⟩
  | _, _, i + 1, x, .cons _ t, e => by
    obtain ⟨y, h1, h2⟩ := paired_get (i := i) (x := x) t (by simpa using e)
    exact ⟨y, by simpa using h1, h2⟩
theorem ok_err {f fV fP fR fPl fCa pe xn nu tm rf fpe fxn fnu ftm frf : Addr} {fd fdV fdP fdR fdPl fdCa fdpe fdxn fdnu fdtm fdrf : FuncData} (F : Fun K "_law_errors_right" "_law_errors_right" sErr f fd) (T : TxA mg) (hm : ∃ mm, base.Ns sysModules mm)
    (GV : FnOk P w K mg base CX0 2 fV fdV ["_law_dice_here"] (spVals K)) (DV : Df K mg "_law_values" ["_law_dice_here"] fV fdV)
    (GP : FnOk P w K mg base CX0 2 fP fdP ["_law_dice_here", "_law_items"] spPick) (DP : Df K mg "_law_pick" ["_law_dice_here", "_law_items"] fP fdP)
    (GR : FnOk P w K mg base CX0 1 fR fdR ["_law_error"] (spRaised K cx)) (DR : Df K mg "_law_raised_by" ["_law_error"] fR fdR)
    (GL : FnOk P w K mg base CX0 1 fPl fdPl [] (spPlain [c0, c1, c2, c3, c4, c5, c6, c7, c8, c9, c10, c11, c12, c13, c14])) (DL : Df K mg "_law_plain_errors" [] fPl fdPl)
    (GC : FnOk P w K mg base CX0 1 fCa fdCa ["_law_error"] (spCaught K [c0, c1, c2, c3, c4, c5, c6, c7, c8, c9, c10, c11, c12, c13, c14])) (DC : Df K mg "_law_caught_by" ["_law_error"] fCa fdCa)
    (Gpe : FnOk P w K mg base CX0 1 fpe fdpe ["self", "number"] (spIni "number" pe)) (Epe : OwnE K mg "ParseError" "number" [.type "ValueError", .type "Exception", .type "BaseException", .type "object"] "ValueError.__new__" pe fpe fdpe)
    (Gxn : FnOk P w K mg base CX0 1 fxn fdxn ["self", "value"] (spIni "value" xn)) (Exn : OwnE K mg "InvalidNumber" "value" [.type "IndexError", .type "LookupError", .type "Exception", .type "BaseException", .type "object"] "IndexError.__new__" xn fxn fdxn)
    (Gnu : FnOk P w K mg base CX0 1 fnu fdnu ["self", "asked"] (spIni "asked" nu)) (Enu : OwnE K mg "NothingToUndo" "asked" [.type "RuntimeError", .type "Exception", .type "BaseException", .type "object"] "RuntimeError.__new__" nu fnu fdnu)
    (Gtm : FnOk P w K mg base CX0 1 ftm fdtm ["self", "limit"] (spIni "limit" tm)) (Etm : OwnE K mg "TooMany" "limit" [.type "OverflowError", .type "ArithmeticError", .type "Exception", .type "BaseException", .type "object"] "OverflowError.__new__" tm ftm fdtm)
    (Grf : FnOk P w K mg base CX0 1 frf fdrf ["self", "pledge"] (spIni "pledge" rf)) (Erf : OwnE K mg "Refused" "pledge" [.type "ArithmeticError", .type "Exception", .type "BaseException", .type "object"] "ArithmeticError.__new__" rf frf fdrf)
    (X : TxE K mg [c0, c1, c2, c3, c4, c5, c6, c7, c8, c9, c10, c11, c12, c13, c14] cx pe xn nu tm rf) :
    FnG P w K mg base 4 f fd ["_law_dice_here"] spTrue := by
  refine FnG.mk' F scE spTrue_len (fun cdv A outer s H vs Q E hga hr h => ?_)
  obtain ⟨p, rfl, d0, q⟩ := h
  have hgd : (A.deeper (envOfC "_law_errors_right" (defScope sErr) s.heap.objs.size f cdv)).guards = some [] := guards_deeper hga
  refine ⟨_, pss_cons (ps_for PassesOwn.never rfl (pi_enum (by rfl) T.enum (pa_cons (pe_call0 GL (hr.mono (by decide)) (by rfl) DL.mg DL.kp DL.b .nil pass0) pa_nil)) (pg_tup rfl (pgs_cons (pg_name (i := 1) scE.nd rfl (Or.inl rfl)) (pgs_cons (pg_name (i := 2) scE.nd rfl (Or.inl rfl)) pgs_nil)))
      (pss_one (ps_if (PW.pt (pw_or (pt_cmpR (op_neD hr.units) (pe_call GR (hr.mono (by decide)) (by rfl) DR.mg DR.kp DR.b .nil pass0 (pa_cons (pv 2) pa_nil)) (pe_lst (pa_cons pe_str (pa_cons pe_str pa_nil))) (nomark _)) (pw_or (pt_cmpR (op_neD hr.units) (pe_call GC (hr.mono (by decide)) (by rfl) DC.mg DC.kp DC.b .nil pass0 (pa_cons (pv 2) pa_nil)) (pe_lst (pa_cons (pv 1) pa_nil)) (nomark _))
        (pw_or1 (pt_val (pe_callB call_isX (by rfl) T.isi boot_isinstance (pa_cons (pv 2) (pa_cons (pe_glob (v := .ref pe) (by rfl) Epe.m rfl) pa_nil)))))))) (pss_one (ps_ret pe_bl)) pss_nil)))
    (pss_cons (ps_set (i := 3) scE.nd rfl (Or.inl rfl) (pe_call GP (hr.mono (by decide)) (by rfl) DP.mg DP.kp DP.b .nil pass0 (pa_cons (pv 0) (pa_cons (pe_call GV (hr.mono (by decide)) (by rfl) DV.mg DV.kp DV.b .nil pass0 (pa_cons (pv 0) pa_nil)) pa_nil))))
    (pss_cons (ps_set (i := 4) scE.nd rfl (Or.inl rfl) (pe_lst (pa_cons (pe_call GR (hr.mono (by decide)) (by rfl) DR.mg DR.kp DR.b .nil pass0 (pa_cons (pe_mkX (B := "ValueError") Epe.X PySem.F.excBase_ValueError Epe.iC Epe.tI Gpe (hr.mono (by decide)) Epe.b (by rfl) Epe.m (pa_cons (pv 3) pa_nil)) pa_nil)) (pa_cons (pe_call GR (hr.mono (by decide)) (by rfl) DR.mg DR.kp DR.b .nil pass0 (pa_cons (pe_mkX (B := "IndexError") Exn.X PySem.F.excBase_IndexError Exn.iC Exn.tI Gxn (hr.mono (by decide)) Exn.b (by rfl) Exn.m (pa_cons (pv 3) pa_nil)) pa_nil)) (pa_cons (pe_call GR (hr.mono (by decide)) (by rfl) DR.mg DR.kp DR.b .nil pass0 (pa_cons (pe_mkX (B := "RuntimeError") Enu.X PySem.F.excBase_RuntimeError Enu.iC Enu.tI Gnu (hr.mono (by decide)) Enu.b (by rfl) Enu.m (pa_cons (pv 3) pa_nil)) pa_nil)) pa_nil)))))
    (pss_cons (ps_set (i := 4) scE.nd rfl (Or.inl rfl) (pe_op op_cat (pv 4) (pe_lst (pa_cons (pe_call GR (hr.mono (by decide)) (by rfl) DR.mg DR.kp DR.b .nil pass0 (pa_cons (pe_mkX (B := "OverflowError") Etm.X PySem.F.excBase_OverflowError Etm.iC Etm.tI Gtm (hr.mono (by decide)) Etm.b (by rfl) Etm.m (pa_cons (pv 3) pa_nil)) pa_nil)) (pa_cons (pe_call GR (hr.mono (by decide)) (by rfl) DR.mg DR.kp DR.b .nil pass0 (pa_cons (pe_mkX (B := "ArithmeticError") Erf.X PySem.F.excBase_ArithmeticError Erf.iC Erf.tI Grf (hr.mono (by decide)) Erf.b (by rfl) Erf.m (pa_cons (pv 3) pa_nil)) pa_nil)) pa_nil)))))
    (pss_cons (ps_if (pt_cmpR (op_neD hr.units) (pv 4) (pe_lst (pa_cons (pe_lst (pa_cons pe_str (pa_cons pe_str pa_nil))) (pa_cons (pe_lst (pa_cons pe_str pa_nil)) (pa_cons (pe_lst (pa_cons pe_str pa_nil)) (pa_cons (pe_lst (pa_cons pe_str (pa_cons pe_str pa_nil))) (pa_cons (pe_lst (pa_cons pe_str pa_nil)) pa_nil)))))) (nomark _)) (pss_one (ps_ret pe_bl)) pss_nil)
    (pss_cons (ps_set (i := 5) scE.nd rfl (Or.inl rfl) (pe_lst (pa_cons (pe_xget (pe_mkX (B := "ValueError") Epe.X PySem.F.excBase_ValueError Epe.iC Epe.tI Gpe (hr.mono (by decide)) Epe.b (by rfl) Epe.m (pa_cons (pv 3) pa_nil))) (pa_cons (pe_xget (pe_mkX (B := "IndexError") Exn.X PySem.F.excBase_IndexError Exn.iC Exn.tI Gxn (hr.mono (by decide)) Exn.b (by rfl) Exn.m (pa_cons (pv 3) pa_nil))) (pa_cons (pe_xget (pe_mkX (B := "RuntimeError") Enu.X PySem.F.excBase_RuntimeError Enu.iC Enu.tI Gnu (hr.mono (by decide)) Enu.b (by rfl) Enu.m (pa_cons (pv 3) pa_nil))) (pa_cons (pe_xget (pe_mkX (B := "OverflowError") Etm.X PySem.F.excBase_OverflowError Etm.iC Etm.tI Gtm (hr.mono (by decide)) Etm.b (by rfl) Etm.m (pa_cons (pv 3) pa_nil))) pa_nil))))))
    (pss_one (ps_ret (pe_cmpR op_eq (pe_callB (call_reprD hgd hr.units hm) (by rfl) T.repr boot_repr (pa_cons (pe_op op_cat (pv 5) (pe_lst (pa_cons (pe_xget (pe_mkX (B := "ArithmeticError") Erf.X PySem.F.excBase_ArithmeticError Erf.iC Erf.tI Grf (hr.mono (by decide)) Erf.b (by rfl) Erf.m (pa_cons (pv 3) pa_nil))) pa_nil))) pa_nil)) (pe_callB (call_reprD hgd hr.units hm) (by rfl) T.repr boot_repr (pa_cons (pe_op op_rep (pe_lst (pa_cons (pv 3) pa_nil)) pe_int) pa_nil)) (nomark _))))))))), ?_⟩
  refine ⟨rfl, fun H1 L as s1 hnL hL hE => ?_⟩
  obtain ⟨b1, d1⟩ := beside s1 d0
  have hlen : as.length = 15 := Paired.length hE
  refine ⟨L, _, rfl, SqL.of hL, for_it (walk_enum (K := K) (a := L) (xs := as.map V.ref)) (fun i σ H' => ∃ v1 v2, σ = [some (.ref p), v1, v2, none, none, none] ∧ Same H1 H') ⟨none, none, rfl, Same.refl _⟩ (fun i σ H' _ ⟨_, _, _, z⟩ => SqL.of (z _ _ hL)) ?_ ?_⟩
  · rintro i x σ H2 H3 hi ⟨v1, v2, rfl, z⟩ ⟨T2, x1, x2, rfl, hT, rfl, e1, e2⟩
    cases e1
    obtain ⟨a, ha, rfl⟩ : ∃ a, as[i]? = some a ∧ x2 = V.ref a := by
      have e2 : (as.map V.ref)[i]? = some x2 := e2
      rw [List.getElem?_map] at e2
      obtain ⟨b, h1, h2⟩ := Option.map_eq_some_iff.mp e2
      exact ⟨b, h1, h2.symm⟩
    have hi15 : i < 15 := by
      rw [List.length_map] at hi
      omega
    obtain ⟨C, hC, hx⟩ := paired_get hE ha
    have hCm := List.mem_of_getElem? hC
    obtain ⟨sT, gT⟩ := newS (o := HO.tup [V.int (i : Nat), V.ref a]) hT
    generalize upd H2 T2 (HO.tup [V.int (i : Nat), V.ref a]) = H3 at sT gT ⊢
    have z3 := z.trans sT
    have K7 := X.k7 C hCm
    refine ⟨T2, _, rfl, SqT.of gT, rfl, _, _, rfl, _, _, rfl, rfl, _, rfl, a, C, true, true, false, false, false, false, false, rfl, hx.same z3, K7, fun H4 L4 s4 hL4 g4 => ⟨by show 2 ≤ sizeLine; decide, fun L5 hL5 => ?_⟩⟩
    obtain ⟨s5, g5⟩ := newS (o := HO.lst [V.str "cross", V.str "value"]) hL5
    generalize upd H4 L5 (HO.lst [V.str "cross", V.str "value"]) = H5 at s5 g5 ⊢
    refine ne_same (d := .list [.str "cross", .str "value"]) (.lst (SqL.of (s5 _ _ g4)) (.cons (.str _) (.cons (.str _) .nil))) (.lst (SqL.of g5) (.cons (.str _) (.cons (.str _) .nil))) (by decide +kernel) ⟨false, rfl, iteF ?_⟩
    have z5 := (z3.trans s4).trans s5
    refine ⟨_, rfl, a, C, bsAt i, rfl, hx.same z5, K7.x, X.k15 i C hC, fun H6 L6 s6 hL6 g6 => ⟨_, rfl, by show 1 ≤ sizeLine; decide, fun L7 hL7 => ?_⟩⟩
    rw [hits_at i hi15] at g6
    obtain ⟨s7, g7⟩ := newS (o := HO.lst [V.int (i : Nat)]) hL7
    generalize upd H6 L7 (HO.lst [V.int (i : Nat)]) = H7 at s7 g7 ⊢
    have z7 := (z5.trans s6).trans s7
    refine ne_same (d := .list [.int (i : Nat)]) (.lst (SqL.of (s7 _ _ g6)) (.cons (.int _) .nil)) (.lst (SqL.of g7) (.cons (.int _) .nil)) rfl ⟨false, rfl, iteF ?_⟩
    exact ⟨_, rfl, a, C, .ref pe, _, false, rfl, hx.same z7, K7.x, .own pe, X.kp C hCm, _, rfl, iteF ⟨_, _, rfl, z7⟩⟩
  · rintro σ H2 ⟨v1, v2, rfl, z⟩
    obtain ⟨b2, d2⟩ := beside z d1
    refine ⟨_, rfl, _, rfl, p, rfl, d2, fun H3 L3 xs ds s3 d3 ne3 _ hL3 hall hnice h0 h100 => ?_⟩
    obtain ⟨l, sd, n, e3⟩ := d3
    refine ⟨p, L3, xs, l, sd, n, rfl, e3, hL3, ne3.symm, h0, by omega, fun i v l' n' hv => ?_⟩
    obtain ⟨d, hd, hq3⟩ := hall.get hv
    have hn := hnice d (List.mem_of_getElem? hd)
    obtain ⟨d4, h4⟩ := rolled (p := p) (G := H3) (l := l') (sd := sd) (n := n')
    generalize upd H3 p (diceO l' sd n') = H4 at d4 h4 ⊢
    have hq : ∀ H', Same H4 H' → Dq K H' v d := fun H' z => Dq.mono z d v (Dq.mono Same.unhide d v (by rw [h4]; exact hq3))
    have b4 : Same (hide p H) (hide p H4) := (b1.trans b2).trans (by rw [h4]; exact s3)
    have cH4 : Same H4 H4 := Same.refl H4
    refine ⟨_, rfl, by show 1 ≤ 1000; decide, fun a1 ha1 => ⟨a1, v, rfl, upd_same, fun e1 he1 hne1 => ⟨rfl, ?_⟩⟩⟩
    obtain ⟨sX1, gX1, yX1⟩ := newX (o1 := exo a1 pe none) (o2 := exd e1 [("number", v)]) (o3 := exo a1 pe (some e1)) ha1 he1 hne1
    generalize upd (upd (upd H4 a1 (exo a1 pe none)) e1 (exd e1 [("number", v)])) a1 (exo a1 pe (some e1)) = X1 at sX1 gX1 yX1 ⊢
    have cX1 : Same H4 X1 := cH4.trans sX1
    refine ⟨a1, pe, true, true, false, false, false, false, false, rfl, .inr ⟨e1, _, gX1, yX1⟩, X.kpe, fun R1 r1 sR1 hr1 gR1 => ?_⟩
    have cR1 : Same H4 R1 := cX1.trans sR1
    refine ⟨_, rfl, by show 1 ≤ 1000; decide, fun a2 ha2 => ⟨a2, v, rfl, upd_same, fun e2 he2 hne2 => ⟨rfl, ?_⟩⟩⟩
    obtain ⟨sX2, gX2, yX2⟩ := newX (o1 := exo a2 xn none) (o2 := exd e2 [("value", v)]) (o3 := exo a2 xn (some e2)) ha2 he2 hne2
    generalize upd (upd (upd R1 a2 (exo a2 xn none)) e2 (exd e2 [("value", v)])) a2 (exo a2 xn (some e2)) = X2 at sX2 gX2 yX2 ⊢
    have cX2 : Same H4 X2 := cR1.trans sX2
    refine ⟨a2, xn, false, false, true, false, false, false, false, rfl, .inr ⟨e2, _, gX2, yX2⟩, X.kxn, fun R2 r2 sR2 hr2 gR2 => ?_⟩
    have cR2 : Same H4 R2 := cX2.trans sR2
    refine ⟨_, rfl, by show 1 ≤ 1000; decide, fun a3 ha3 => ⟨a3, v, rfl, upd_same, fun e3 he3 hne3 => ⟨rfl, ?_⟩⟩⟩
    obtain ⟨sX3, gX3, yX3⟩ := newX (o1 := exo a3 nu none) (o2 := exd e3 [("asked", v)]) (o3 := exo a3 nu (some e3)) ha3 he3 hne3
    generalize upd (upd (upd R2 a3 (exo a3 nu none)) e3 (exd e3 [("asked", v)])) a3 (exo a3 nu (some e3)) = X3 at sX3 gX3 yX3 ⊢
    have cX3 : Same H4 X3 := cR2.trans sX3
    refine ⟨a3, nu, false, false, false, false, true, false, false, rfl, .inr ⟨e3, _, gX3, yX3⟩, X.knu, fun R3 r3 sR3 hr3 gR3 => ?_⟩
    have cR3 : Same H4 R3 := cX3.trans sR3
    refine ⟨by show 3 ≤ sizeLine; decide, fun t0 ht0 => ?_⟩
    obtain ⟨sN4, gN4⟩ := newS (o := HO.lst [V.ref r1, V.ref r2, V.ref r3]) ht0
    generalize upd R3 t0 (HO.lst [V.ref r1, V.ref r2, V.ref r3]) = N4 at sN4 gN4 ⊢
    have cN4 : Same H4 N4 := cR3.trans sN4
    refine ⟨_, rfl, ?_⟩
    refine ⟨_, rfl, by show 1 ≤ 1000; decide, fun a5 ha5 => ⟨a5, v, rfl, upd_same, fun e5 he5 hne5 => ⟨rfl, ?_⟩⟩⟩
    obtain ⟨sX5, gX5, yX5⟩ := newX (o1 := exo a5 tm none) (o2 := exd e5 [("limit", v)]) (o3 := exo a5 tm (some e5)) ha5 he5 hne5
    generalize upd (upd (upd N4 a5 (exo a5 tm none)) e5 (exd e5 [("limit", v)])) a5 (exo a5 tm (some e5)) = X5 at sX5 gX5 yX5 ⊢
    have cX5 : Same H4 X5 := cN4.trans sX5
    refine ⟨a5, tm, false, false, false, false, false, true, true, rfl, .inr ⟨e5, _, gX5, yX5⟩, X.ktm, fun R5 r5 sR5 hr5 gR5 => ?_⟩
    have cR5 : Same H4 R5 := cX5.trans sR5
    refine ⟨_, rfl, by show 1 ≤ 1000; decide, fun a6 ha6 => ⟨a6, v, rfl, upd_same, fun e6 he6 hne6 => ⟨rfl, ?_⟩⟩⟩
    obtain ⟨sX6, gX6, yX6⟩ := newX (o1 := exo a6 rf none) (o2 := exd e6 [("pledge", v)]) (o3 := exo a6 rf (some e6)) ha6 he6 hne6
    generalize upd (upd (upd R5 a6 (exo a6 rf none)) e6 (exd e6 [("pledge", v)])) a6 (exo a6 rf (some e6)) = X6 at sX6 gX6 yX6 ⊢
    have cX6 : Same H4 X6 := cR5.trans sX6
    refine ⟨a6, rf, false, false, false, false, false, false, true, rfl, .inr ⟨e6, _, gX6, yX6⟩, X.krf, fun R6 r6 sR6 hr6 gR6 => ?_⟩
    have cR6 : Same H4 R6 := cX6.trans sR6
    refine ⟨by show 2 ≤ sizeLine; decide, fun t1 ht1 => ?_⟩
    obtain ⟨sN7, gN7⟩ := newS (o := HO.lst [V.ref r5, V.ref r6]) ht1
    generalize upd R6 t1 (HO.lst [V.ref r5, V.ref r6]) = N7 at sN7 gN7 ⊢
    have cN7 : Same H4 N7 := cR6.trans sN7
    refine ⟨t0, t1, _, _, rfl, rfl, sN7 _ _ (sR6 _ _ (sX6 _ _ (sR5 _ _ (sX5 _ _ (gN4))))), gN7, by show 5 ≤ sizeLine; decide, fun t2 ht2 => ?_⟩
    obtain ⟨sN8, gN8⟩ := newS (o := HO.lst ([V.ref r1, V.ref r2, V.ref r3] ++ [V.ref r5, V.ref r6])) ht2
    generalize upd N7 t2 (HO.lst ([V.ref r1, V.ref r2, V.ref r3] ++ [V.ref r5, V.ref r6])) = N8 at sN8 gN8 ⊢
    have cN8 : Same H4 N8 := cN7.trans sN8
    refine ⟨_, rfl, ?_⟩
    refine ⟨by show 2 ≤ sizeLine; decide, fun u0 hu0 => ?_⟩
    obtain ⟨sN9, gN9⟩ := newS (o := HO.lst [V.str "cross", V.str "value"]) hu0
    generalize upd N8 u0 (HO.lst [V.str "cross", V.str "value"]) = N9 at sN9 gN9 ⊢
    have cN9 : Same H4 N9 := cN8.trans sN9
    refine ⟨by show 1 ≤ sizeLine; decide, fun u1 hu1 => ?_⟩
    obtain ⟨sN10, gN10⟩ := newS (o := HO.lst [V.str "index"]) hu1
    generalize upd N9 u1 (HO.lst [V.str "index"]) = N10 at sN10 gN10 ⊢
    have cN10 : Same H4 N10 := cN9.trans sN10
    refine ⟨by show 1 ≤ sizeLine; decide, fun u2 hu2 => ?_⟩
    obtain ⟨sN11, gN11⟩ := newS (o := HO.lst [V.str "runtime"]) hu2
    generalize upd N10 u2 (HO.lst [V.str "runtime"]) = N11 at sN11 gN11 ⊢
    have cN11 : Same H4 N11 := cN10.trans sN11
    refine ⟨by show 2 ≤ sizeLine; decide, fun u3 hu3 => ?_⟩
    obtain ⟨sN12, gN12⟩ := newS (o := HO.lst [V.str "overflow", V.str "arithmetic"]) hu3
    generalize upd N11 u3 (HO.lst [V.str "overflow", V.str "arithmetic"]) = N12 at sN12 gN12 ⊢
    have cN12 : Same H4 N12 := cN11.trans sN12
    refine ⟨by show 1 ≤ sizeLine; decide, fun u4 hu4 => ?_⟩
    obtain ⟨sN13, gN13⟩ := newS (o := HO.lst [V.str "arithmetic"]) hu4
    generalize upd N12 u4 (HO.lst [V.str "arithmetic"]) = N13 at sN13 gN13 ⊢
    have cN13 : Same H4 N13 := cN12.trans sN13
    refine ⟨by show 5 ≤ sizeLine; decide, fun u5 hu5 => ?_⟩
    obtain ⟨sN14, gN14⟩ := newS (o := HO.lst [V.ref u0, V.ref u1, V.ref u2, V.ref u3, V.ref u4]) hu5
    generalize upd N13 u5 (HO.lst [V.ref u0, V.ref u1, V.ref u2, V.ref u3, V.ref u4]) = N14 at sN14 gN14 ⊢
    have cN14 : Same H4 N14 := cN13.trans sN14
    refine ne_same (d := .list [.list [.str "cross", .str "value"], .list [.str "index"], .list [.str "runtime"], .list [.str "overflow", .str "arithmetic"], .list [.str "arithmetic"]]) (.lst (SqL.of (sN14 _ _ (sN13 _ _ (sN12 _ _ (sN11 _ _ (sN10 _ _ (sN9 _ _ (gN8)))))))) (.cons (.lst (SqL.of (sN14 _ _ (sN13 _ _ (sN12 _ _ (sN11 _ _ (sN10 _ _ (sN9 _ _ (sN8 _ _ (sN7 _ _ (sR6 _ _ (sX6 _ _ (sR5 _ _ (sX5 _ _ (sN4 _ _ (sR3 _ _ (sX3 _ _ (sR2 _ _ (sX2 _ _ (gR1))))))))))))))))))) (.cons (.str _) (.cons (.str _) .nil))) (.cons (.lst (SqL.of (sN14 _ _ (sN13 _ _ (sN12 _ _ (sN11 _ _ (sN10 _ _ (sN9 _ _ (sN8 _ _ (sN7 _ _ (sR6 _ _ (sX6 _ _ (sR5 _ _ (sX5 _ _ (sN4 _ _ (sR3 _ _ (sX3 _ _ (gR2))))))))))))))))) (.cons (.str _) .nil)) (.cons (.lst (SqL.of (sN14 _ _ (sN13 _ _ (sN12 _ _ (sN11 _ _ (sN10 _ _ (sN9 _ _ (sN8 _ _ (sN7 _ _ (sR6 _ _ (sX6 _ _ (sR5 _ _ (sX5 _ _ (sN4 _ _ (gR3))))))))))))))) (.cons (.str _) .nil)) (.cons (.lst (SqL.of (sN14 _ _ (sN13 _ _ (sN12 _ _ (sN11 _ _ (sN10 _ _ (sN9 _ _ (sN8 _ _ (sN7 _ _ (sR6 _ _ (sX6 _ _ (gR5)))))))))))) (.cons (.str _) (.cons (.str _) .nil))) (.cons (.lst (SqL.of (sN14 _ _ (sN13 _ _ (sN12 _ _ (sN11 _ _ (sN10 _ _ (sN9 _ _ (sN8 _ _ (sN7 _ _ (gR6)))))))))) (.cons (.str _) .nil)) .nil)))))) (.lst (SqL.of gN14) (.cons (.lst (SqL.of (sN14 _ _ (sN13 _ _ (sN12 _ _ (sN11 _ _ (sN10 _ _ (gN9))))))) (.cons (.str _) (.cons (.str _) .nil))) (.cons (.lst (SqL.of (sN14 _ _ (sN13 _ _ (sN12 _ _ (sN11 _ _ (gN10)))))) (.cons (.str _) .nil)) (.cons (.lst (SqL.of (sN14 _ _ (sN13 _ _ (sN12 _ _ (gN11))))) (.cons (.str _) .nil)) (.cons (.lst (SqL.of (sN14 _ _ (sN13 _ _ (gN12)))) (.cons (.str _) (.cons (.str _) .nil))) (.cons (.lst (SqL.of (sN14 _ _ (gN13))) (.cons (.str _) .nil)) .nil)))))) (by decide +kernel) ⟨false, rfl, iteF ?_⟩
    refine ⟨_, rfl, by show 1 ≤ 1000; decide, fun a15 ha15 => ⟨a15, v, rfl, upd_same, fun e15 he15 hne15 => ⟨rfl, ?_⟩⟩⟩
    obtain ⟨sX15, gX15, yX15⟩ := newX (o1 := exo a15 pe none) (o2 := exd e15 [("number", v)]) (o3 := exo a15 pe (some e15)) ha15 he15 hne15
    generalize upd (upd (upd N14 a15 (exo a15 pe none)) e15 (exd e15 [("number", v)])) a15 (exo a15 pe (some e15)) = X15 at sX15 gX15 yX15 ⊢
    have cX15 : Same H4 X15 := cN14.trans sX15
    refine ⟨a15, pe, e15, _, v, rfl, gX15, yX15, X.kpe.x, Epe.no, look1 _ _, ?_⟩
    refine ⟨_, rfl, by show 1 ≤ 1000; decide, fun a16 ha16 => ⟨a16, v, rfl, upd_same, fun e16 he16 hne16 => ⟨rfl, ?_⟩⟩⟩
    obtain ⟨sX16, gX16, yX16⟩ := newX (o1 := exo a16 xn none) (o2 := exd e16 [("value", v)]) (o3 := exo a16 xn (some e16)) ha16 he16 hne16
    generalize upd (upd (upd X15 a16 (exo a16 xn none)) e16 (exd e16 [("value", v)])) a16 (exo a16 xn (some e16)) = X16 at sX16 gX16 yX16 ⊢
    have cX16 : Same H4 X16 := cX15.trans sX16
    refine ⟨a16, xn, e16, _, v, rfl, gX16, yX16, X.kxn.x, Exn.no, look1 _ _, ?_⟩
    refine ⟨_, rfl, by show 1 ≤ 1000; decide, fun a17 ha17 => ⟨a17, v, rfl, upd_same, fun e17 he17 hne17 => ⟨rfl, ?_⟩⟩⟩
    obtain ⟨sX17, gX17, yX17⟩ := newX (o1 := exo a17 nu none) (o2 := exd e17 [("asked", v)]) (o3 := exo a17 nu (some e17)) ha17 he17 hne17
    generalize upd (upd (upd X16 a17 (exo a17 nu none)) e17 (exd e17 [("asked", v)])) a17 (exo a17 nu (some e17)) = X17 at sX17 gX17 yX17 ⊢
    have cX17 : Same H4 X17 := cX16.trans sX17
    refine ⟨a17, nu, e17, _, v, rfl, gX17, yX17, X.knu.x, Enu.no, look1 _ _, ?_⟩
    refine ⟨_, rfl, by show 1 ≤ 1000; decide, fun a18 ha18 => ⟨a18, v, rfl, upd_same, fun e18 he18 hne18 => ⟨rfl, ?_⟩⟩⟩
    obtain ⟨sX18, gX18, yX18⟩ := newX (o1 := exo a18 tm none) (o2 := exd e18 [("limit", v)]) (o3 := exo a18 tm (some e18)) ha18 he18 hne18
    generalize upd (upd (upd X17 a18 (exo a18 tm none)) e18 (exd e18 [("limit", v)])) a18 (exo a18 tm (some e18)) = X18 at sX18 gX18 yX18 ⊢
    have cX18 : Same H4 X18 := cX17.trans sX18
    refine ⟨a18, tm, e18, _, v, rfl, gX18, yX18, X.ktm.x, Etm.no, look1 _ _, ?_⟩
    refine ⟨by show 4 ≤ sizeLine; decide, fun w0 hw0 => ?_⟩
    obtain ⟨sN19, gN19⟩ := newS (o := HO.lst [v, v, v, v]) hw0
    generalize upd X18 w0 (HO.lst [v, v, v, v]) = N19 at sN19 gN19 ⊢
    have cN19 : Same H4 N19 := cX18.trans sN19
    refine ⟨_, rfl, ?_⟩
    refine ⟨_, rfl, by show 1 ≤ 1000; decide, fun a20 ha20 => ⟨a20, v, rfl, upd_same, fun e20 he20 hne20 => ⟨rfl, ?_⟩⟩⟩
    obtain ⟨sX20, gX20, yX20⟩ := newX (o1 := exo a20 rf none) (o2 := exd e20 [("pledge", v)]) (o3 := exo a20 rf (some e20)) ha20 he20 hne20
    generalize upd (upd (upd N19 a20 (exo a20 rf none)) e20 (exd e20 [("pledge", v)])) a20 (exo a20 rf (some e20)) = X20 at sX20 gX20 yX20 ⊢
    have cX20 : Same H4 X20 := cN19.trans sX20
    refine ⟨a20, rf, e20, _, v, rfl, gX20, yX20, X.krf.x, Erf.no, look1 _ _, ?_⟩
    refine ⟨by show 1 ≤ sizeLine; decide, fun w1 hw1 => ?_⟩
    obtain ⟨sN21, gN21⟩ := newS (o := HO.lst [v]) hw1
    generalize upd X20 w1 (HO.lst [v]) = N21 at sN21 gN21 ⊢
    have cN21 : Same H4 N21 := cX20.trans sN21
    refine ⟨w0, w1, _, _, rfl, rfl, sN21 _ _ (sX20 _ _ (gN19)), gN21, by show 5 ≤ sizeLine; decide, fun w2 hw2 => ?_⟩
    obtain ⟨sN22, gN22⟩ := newS (o := HO.lst ([v, v, v, v] ++ [v])) hw2
    generalize upd N21 w2 (HO.lst ([v, v, v, v] ++ [v])) = N22 at sN22 gN22 ⊢
    have cN22 : Same H4 N22 := cN21.trans sN22
    have q1 := hq N22 cN22
    obtain ⟨f1, f2, f3⟩ := five_nice hn
    refine ⟨w2, .list [d, d, d, d, d], rfl, .lst (SqL.of gN22) (.cons q1 (.cons q1 (.cons q1 (.cons q1 (.cons q1 .nil))))), f1, f2, f3, _, rfl, by show 1 ≤ sizeLine; decide, fun w3 hw3 => ?_⟩
    obtain ⟨sN23, gN23⟩ := newS (o := HO.lst [v]) hw3
    generalize upd N22 w3 (HO.lst [v]) = N23 at sN23 gN23 ⊢
    have cN23 : Same H4 N23 := cN22.trans sN23
    refine ⟨w3, 5, _, rfl, rfl, gN23, by decide, by decide, by show 1 * 5 ≤ sizeLine; decide, fun w4 hw4 => ?_⟩
    obtain ⟨sN24, gN24⟩ := newS (o := HO.lst (List.replicate (Int.toNat 5) [v]).flatten) hw4
    generalize upd N23 w4 (HO.lst (List.replicate (Int.toNat 5) [v]).flatten) = N24 at sN24 gN24 ⊢
    have cN24 : Same H4 N24 := cN23.trans sN24
    have q2 := hq N24 cN24
    have gN24' : N24 w4 = some (.lst [v, v, v, v, v]) := gN24
    refine ⟨w4, .list [d, d, d, d, d], rfl, .lst (SqL.of gN24') (.cons q2 (.cons q2 (.cons q2 (.cons q2 (.cons q2 .nil))))), f1, f2, f3, rfl, ?_⟩
    obtain ⟨b5, d5⟩ := beside cN24 d4
    show Q (.bl (decide _)) _
    rw [decide_eq_true rfl]
    exact q _ (b4.trans b5) d5
end
end Xgd
namespace Xgd
open PySem PySem.Spec PyProof.Rows L2
def spLaw (K : PySem.W.Frag) : Sp := fun vs H Q _ => ∃ (a : Addr) (ns : List Int), vs = [.ref a] ∧ SqL K H a (ns.map V.int) ∧ ns.length ≤ 63 ∧ ∀ H', Q (.bl true) H'
theorem same_out {p : Addr} {H G G' : Hp} (hp : H p = none) (s : Same H G) (t : Same (hide p G) (hide p G')) : Same H G' := fun b o e => by
  have hb : b ≠ p := ne_of_none e hp
  have e1 : hide p G b = some o := by rw [hide_ne hb]; exact s b o e
  have e2 := t b o e1
  rw [hide_ne hb] at e2
  exact e2
section
variable {P : Program} {w : World} {K : PySem.W.Frag} {mg : Str → Option Value} {base : Heap}
theorem scLaw : FnScope ["_law_script", "_law_spot", "_law_dice_here", "_law_turn"] ["_law_script"] (defScope sLaw) := ⟨rfl, rfl, rfl, by decide +kernel, rfl, by decide +kernel, by decide +kernel⟩
theorem ok_law {f fD fW fE : Addr} {fd fdD fdW fdE : FuncData} (F : Fun K "law" "law" sLaw f fd) (T : TxA mg)
    (GD : FnOk P w K mg base CX0 1 fD fdD ["_law_script", "_law_spot"] (spDice K)) (DD : Df K mg "_law_dice" ["_law_script", "_law_spot"] fD fdD)
    (GW : FnG P w K mg base 4 fW fdW ["_law_dice_here"] spTrue) (DW : Df K mg "_law_words_right" ["_law_dice_here"] fW fdW)
    (GE : FnG P w K mg base 4 fE fdE ["_law_dice_here"] spTrue) (DE : Df K mg "_law_errors_right" ["_law_dice_here"] fE fdE) :
    FnG P w K mg base 5 f fd ["_law_script"] (spLaw K) := by
  refine FnG.mk' F scLaw (fun vs H Q E h => ?_) (fun cdv A outer s H vs Q E hga hr h => ?_)
  · obtain ⟨a, ns, rfl, _⟩ := h
    rfl
  obtain ⟨a, ns, rfl, hS, hlen, q⟩ := h
  have hgd : (A.deeper (envOfC "law" (defScope sLaw) s.heap.objs.size f cdv)).guards = some [] := guards_deeper hga
  refine ⟨_, pss_cons (ps_for PassesOwn.never rfl (pi_range1 (by rfl) T.range (pa_cons (pe_callB (call_max2 rfl) (by rfl) T.max boot_max (pa_cons pe_int (pa_cons (pe_callB (call_min2 rfl) (by rfl) T.min boot_min (pa_cons pe_int
        (pa_cons (pe_callB call_len_seq (by rfl) T.len PySem.boot_len (pa_cons (pv 0) pa_nil)) pa_nil))) pa_nil))) pa_nil)) (pg_name (i := 1) scLaw.nd rfl (Or.inl rfl))
      (pss_cons (ps_set (i := 2) scLaw.nd rfl (Or.inl rfl) (pe_call GD (hr.mono (by decide)) (by rfl) DD.mg DD.kp DD.b .nil pass0 (pa_cons (pv 0) (pa_cons (pv 1) pa_nil))))
      (pss_one (ps_for PassesOwn.never rfl (pi_range1 (by rfl) T.range (pa_cons pe_int pa_nil)) (pg_name (i := 3) scLaw.nd rfl (Or.inl rfl))
        (pss_one (ps_if (PW.pt (pw_or (pt_not (pt_val (pe_callG GW hgd hr (by rfl) DW.mg DW.kp DW.b .nil (pa_cons (pv 2) pa_nil)))) (pw_or1 (pt_not (pt_val (pe_callG GE hgd hr (by rfl) DE.mg DE.kp DE.b .nil (pa_cons (pv 2) pa_nil)))))))
          (pss_one (ps_ret pe_bl)) pss_nil))))))
    (pss_one (ps_ret pe_bl)), ?_⟩
  obtain ⟨j, hj, hj1, hj3⟩ : ∃ j : Int, j = (if (if ((ns.map V.int).length : Int) < 3 then ((ns.map V.int).length : Int) else 3) > 1 then (if ((ns.map V.int).length : Int) < 3 then ((ns.map V.int).length : Int) else 3) else 1) ∧ 1 ≤ j ∧ j ≤ 3 := by
    refine ⟨_, rfl, ?_, ?_⟩ <;> (repeat' split) <;> omega
  refine ⟨_, rfl, a, _, rfl, .inl hS, _, _, rfl, _, _, rfl, j, by rw [hj], by omega, by omega, for_range (lo := 0) (n := j.toNat) (fun i σ H' => ∃ v1 v2 v3, σ = [some (.ref a), v1, v2, v3] ∧ Same H H') ⟨none, none, none, rfl, Same.refl _⟩ ?_ ?_⟩
  · rintro i σ H1 hi ⟨v1, v2, v3, rfl, s1⟩
    refine ⟨_, rfl, _, rfl, a, ns, i, by rw [Int.zero_add]; rfl, s1.seq hS, by omega, fun l sd n p hp => ?_⟩
    have hpH : H p = none := Same.free s1 hp
    have d2 : DiceAt (upd H1 p (diceO l sd n)) p := ⟨_, _, _, upd_same⟩
    have s2 : Same H (upd H1 p (diceO l sd n)) := s1.trans (Same.new hp)
    generalize upd H1 p (diceO l sd n) = H2 at d2 s2 ⊢
    refine ⟨3, rfl, by decide, by decide, for_range (lo := 0) (n := (3 : Int).toNat) (fun k σ H' => ∃ v3, σ = [some (.ref a), some (.int (0 + i)), some (.ref p), v3] ∧ Same (hide p H2) (hide p H') ∧ DiceAt H' p) ⟨v3, rfl, Same.refl _, d2⟩ ?_ ?_⟩
    · rintro k σ H3 hk ⟨v4, rfl, s3, d3⟩
      refine ⟨_, rfl, p, rfl, d3, fun H4 s4 d4 => ⟨true, rfl, iteF ⟨_, rfl, p, rfl, d4, fun H5 s5 d5 => ⟨true, rfl, iteF ⟨_, rfl, (s3.trans s4).trans s5, d5⟩⟩⟩⟩⟩
    · rintro σ H3 ⟨v4, rfl, s3, d3⟩
      exact ⟨_, _, _, rfl, same_out hpH s2 s3⟩
  · rintro σ H1 ⟨v1, v2, v3, rfl, s1⟩
    exact q H1
end
end Xgd
namespace Xgd
open PySem PySem.Spec PyProof.Rows L2
/-! ### the classes, by one look each -/
def xcB (K : PySem.W.Frag) (C : Addr) : Bool :=
  PySem.W.isClsIn K C && (decide (PySem.W.findIn K (.ref C) "__getattribute__" = some (some (.builtin "BaseException.__getattribute__"))) && (decide (PySem.W.findIn K (.ref C) "__getattr__" = some none) &&
  (decide (PySem.W.subIn K (.ref C) (.type "BaseException") = some true) && (decide (PySem.W.findIn K (.ref C) "__class__" = some (some (.builtin "object.__class__"))) &&
  (decide (PySem.W.specialIn K (.builtin "object.__class__") "__get__" = some (some (.builtin "getset_descriptor.__get__"))) && (decide (PySem.W.takesIn K (.builtin "object.__class__") = some true) &&
  (decide (PySem.W.mroIn K C (.type "object") = some true) && PySem.W.hasDictIn K C)))))))
theorem xcB_ok {K : PySem.W.Frag} {C : Addr} (h : xcB K C = true) : XcC K C := by
  unfold xcB at h
  simp only [Bool.and_eq_true, decide_eq_true_eq] at h
  obtain ⟨h1, h2, h3, h4, h5, h6, h7, h8, h9⟩ := h
  exact ⟨h1, h2, h3, h4, h5, h6, h7, h8, h9⟩
def kitB2 (K : PySem.W.Frag) (C : Addr) (c : Value) (b : Bool) : Bool := decide (PySem.W.kitOne K (.ref C) c = some b)
def kit7B (K : PySem.W.Frag) (cx C : Addr) (b1 b2 b3 b4 b5 b6 b7 : Bool) : Bool :=
  kitB2 K C (.ref cx) b1 && (kitB2 K C (.type "ValueError") b2 && (kitB2 K C (.type "IndexError") b3 && (kitB2 K C (.type "KeyError") b4 && (kitB2 K C (.type "RuntimeError") b5 && (kitB2 K C (.type "OverflowError") b6 && kitB2 K C (.type "ArithmeticError") b7)))))
theorem kit7_ok {K : PySem.W.Frag} {cx C : Addr} {b1 b2 b3 b4 b5 b6 b7 : Bool} (x : XcC K C) (h : kit7B K cx C b1 b2 b3 b4 b5 b6 b7 = true) : Kits K cx C b1 b2 b3 b4 b5 b6 b7 := by
  unfold kit7B kitB2 at h
  simp only [Bool.and_eq_true, decide_eq_true_eq] at h
  obtain ⟨h1, h2, h3, h4, h5, h6, h7⟩ := h
  exact ⟨x, h1, h2, h3, h4, h5, h6, h7⟩
def pairB (K : PySem.W.Frag) (C : Addr) : List Addr → List Bool → Bool
  | [], [] => true
  | D :: Ds, b :: bs => kitB2 K C (.ref D) b && pairB K C Ds bs
  | _, _ => false
theorem pair_ok {K : PySem.W.Frag} {C : Addr} : ∀ {Ds : List Addr} {bs : List Bool}, pairB K C Ds bs = true → Paired (fun D b => PySem.W.kitOne K (.ref C) (.ref D) = some b) Ds bs
  | [], [], _ => .nil
  | D :: Ds, b :: bs, h => by
    obtain ⟨h1, h2⟩ := Bool.and_eq_true_iff.mp h
    exact .cons (of_decide_eq_true h1) (pair_ok h2)
  | [], _ :: _, h => by cases h
  | _ :: _, [], h => by cases h
theorem long_of {prog : Program} {mg : Str → Option Value} {h : Heap} (x : PySem.W.XL prog [(Str.ofString "_TOO_LONG", PySem.W.WData.int 1000000000000000000000000000000000000000000000000000000000000)] mg h) :
    ∃ t, mg "_TOO_LONG" = some (.int 1000000000000000000000000000000000000000000000000000000000000 t) := by
  obtain ⟨v, h1, h2⟩ := x.2.val _ List.mem_cons_self
  cases h2
  exact ⟨_, h1⟩
theorem all_mk {l : PySem.W.OpenLaw} {w : World} {K : PySem.W.Frag} {h : Heap} {mg : Str → Option Value} {fa cx c0 c1 c2 c3 c4 c5 c6 c7 c8 c9 c10 c11 c12 c13 c14 pe xn nu tm rf : Addr} {tf : Tok} (X : K.In h) (G : h.Ns mainGlobals mg) (hlong : ∃ t, mg "_TOO_LONG" = some (.int 1000000000000000000000000000000000000000000000000000000000000 t)) (hfa : mg "law" = some (.ref fa))
    {f0 : Addr} {od0 an0 : Option Addr} {sl0 : Array (Option Value)} {oc0 kV0 dc0 pm0 cd0 ct0 : Value}
    {f1 : Addr} {od1 an1 : Option Addr} {sl1 : Array (Option Value)} {oc1 kV1 dc1 pm1 cd1 ct1 : Value}
    {f2 : Addr} {od2 an2 : Option Addr} {sl2 : Array (Option Value)} {oc2 kV2 dc2 pm2 cd2 ct2 : Value}
    {f3 : Addr} {od3 an3 : Option Addr} {sl3 : Array (Option Value)} {oc3 kV3 dc3 pm3 cd3 ct3 : Value}
    {f4 : Addr} {od4 an4 : Option Addr} {sl4 : Array (Option Value)} {oc4 kV4 dc4 pm4 cd4 ct4 : Value}
    {f5 : Addr} {od5 an5 : Option Addr} {sl5 : Array (Option Value)} {oc5 kV5 dc5 pm5 cd5 ct5 : Value}
    {f6 : Addr} {od6 an6 : Option Addr} {sl6 : Array (Option Value)} {oc6 kV6 dc6 pm6 cd6 ct6 : Value}
    {f7 : Addr} {od7 an7 : Option Addr} {sl7 : Array (Option Value)} {oc7 kV7 dc7 pm7 cd7 ct7 : Value}
    {f8 : Addr} {od8 an8 : Option Addr} {sl8 : Array (Option Value)} {oc8 kV8 dc8 pm8 cd8 ct8 : Value}
    {f9 : Addr} {od9 an9 : Option Addr} {sl9 : Array (Option Value)} {oc9 kV9 dc9 pm9 cd9 ct9 : Value}
    {f10 : Addr} {od10 an10 : Option Addr} {sl10 : Array (Option Value)} {oc10 kV10 dc10 pm10 cd10 ct10 : Value}
    {f11 : Addr} {od11 an11 : Option Addr} {sl11 : Array (Option Value)} {oc11 kV11 dc11 pm11 cd11 ct11 : Value}
    {f12 : Addr} {od12 an12 : Option Addr} {sl12 : Array (Option Value)} {oc12 kV12 dc12 pm12 cd12 ct12 : Value}
    {f13 : Addr} {od13 an13 : Option Addr} {sl13 : Array (Option Value)} {oc13 kV13 dc13 pm13 cd13 ct13 : Value}
    {f14 : Addr} {od14 an14 : Option Addr} {sl14 : Array (Option Value)} {oc14 kV14 dc14 pm14 cd14 ct14 : Value}
    {fpe : Addr} {odpe anpe : Option Addr} {slpe : Array (Option Value)} {ocpe kVpe dcpe pmpe cdpe ctpe : Value}
    {fxn : Addr} {odxn anxn : Option Addr} {slxn : Array (Option Value)} {ocxn kVxn dcxn pmxn cdxn ctxn : Value}
    {fnu : Addr} {odnu annu : Option Addr} {slnu : Array (Option Value)} {ocnu kVnu dcnu pmnu cdnu ctnu : Value}
    {ftm : Addr} {odtm antm : Option Addr} {sltm : Array (Option Value)} {octm kVtm dctm pmtm cdtm cttm : Value}
    {frf : Addr} {odrf anrf : Option Addr} {slrf : Array (Option Value)} {ocrf kVrf dcrf pmrf cdrf ctrf : Value}
    (nisinstance : PySem.W.nsIn K mainGlobals "isinstance" = some none)
    (nint : PySem.W.nsIn K mainGlobals "int" = some none)
    (nbool : PySem.W.nsIn K mainGlobals "bool" = some none)
    (ntuple : PySem.W.nsIn K mainGlobals "tuple" = some none)
    (nabs : PySem.W.nsIn K mainGlobals "abs" = some none)
    (nall : PySem.W.nsIn K mainGlobals "all" = some none)
    (nlen : PySem.W.nsIn K mainGlobals "len" = some none)
    (nmax : PySem.W.nsIn K mainGlobals "max" = some none)
    (nmin : PySem.W.nsIn K mainGlobals "min" = some none)
    (nrange : PySem.W.nsIn K mainGlobals "range" = some none)
    (nrepr : PySem.W.nsIn K mainGlobals "repr" = some none)
    (nenumerate : PySem.W.nsIn K mainGlobals "enumerate" = some none)
    (nValueError : PySem.W.nsIn K mainGlobals "ValueError" = some none)
    (nIndexError : PySem.W.nsIn K mainGlobals "IndexError" = some none)
    (nKeyError : PySem.W.nsIn K mainGlobals "KeyError" = some none)
    (nRuntimeError : PySem.W.nsIn K mainGlobals "RuntimeError" = some none)
    (nOverflowError : PySem.W.nsIn K mainGlobals "OverflowError" = some none)
    (nArithmeticError : PySem.W.nsIn K mainGlobals "ArithmeticError" = some none)
    (aFig : PySem.W.nsIn K mainGlobals "MAX_FIGURES" = some (some (.int 60 tf)))
    (aCx : PySem.W.nsIn K mainGlobals "CrossError" = some (some (.ref cx)))
    (aC0 : PySem.W.nsIn K mainGlobals "InvalidRow" = some (some (.ref c0)))
    (aC1 : PySem.W.nsIn K mainGlobals "InvalidDrawing" = some (some (.ref c1)))
    (aC2 : PySem.W.nsIn K mainGlobals "InvalidEnd" = some (some (.ref c2)))
    (aC3 : PySem.W.nsIn K mainGlobals "InvalidMove" = some (some (.ref c3)))
    (aC4 : PySem.W.nsIn K mainGlobals "InvalidCourse" = some (some (.ref c4)))
    (aC5 : PySem.W.nsIn K mainGlobals "InvalidWeb" = some (some (.ref c5)))
    (aC6 : PySem.W.nsIn K mainGlobals "InvalidShade" = some (some (.ref c6)))
    (aC7 : PySem.W.nsIn K mainGlobals "InvalidSmoothing" = some (some (.ref c7)))
    (aC8 : PySem.W.nsIn K mainGlobals "InvalidOrder" = some (some (.ref c8)))
    (aC9 : PySem.W.nsIn K mainGlobals "InvalidTree" = some (some (.ref c9)))
    (aC10 : PySem.W.nsIn K mainGlobals "InvalidPaper" = some (some (.ref c10)))
    (aC11 : PySem.W.nsIn K mainGlobals "InvalidPairing" = some (some (.ref c11)))
    (aC12 : PySem.W.nsIn K mainGlobals "InvalidMatching" = some (some (.ref c12)))
    (aC13 : PySem.W.nsIn K mainGlobals "InvalidColouring" = some (some (.ref c13)))
    (aC14 : PySem.W.nsIn K mainGlobals "InvalidOperation" = some (some (.ref c14)))
    (aEpe : PySem.W.nsIn K mainGlobals "ParseError" = some (some (.ref pe)))
    (aExn : PySem.W.nsIn K mainGlobals "InvalidNumber" = some (some (.ref xn)))
    (aEnu : PySem.W.nsIn K mainGlobals "NothingToUndo" = some (some (.ref nu)))
    (aEtm : PySem.W.nsIn K mainGlobals "TooMany" = some (some (.ref tm)))
    (aErf : PySem.W.nsIn K mainGlobals "Refused" = some (some (.ref rf)))
    (a0 : PySem.W.nsIn K mainGlobals "is_integer" = some (some (.ref f0)))
    (l0 : K.lookup f0 = some ⟨oc0, od0, .func (PySem.W.fnOf "is_integer" "is_integer" (defArgs sIsInt) (defBody sIsInt) (defScope sIsInt) .none kV0 dc0 pm0 an0 cd0 ct0), sl0⟩)
    (d0 : PySem.W.codeIn K cd0 "is_integer" = true)
    (k0 : PySem.W.keepIn K (.ref f0) = true)
    (a1 : PySem.W.nsIn K mainGlobals "is_count" = some (some (.ref f1)))
    (l1 : K.lookup f1 = some ⟨oc1, od1, .func (PySem.W.fnOf "is_count" "is_count" (defArgs sIsCnt) (defBody sIsCnt) (defScope sIsCnt) .none kV1 dc1 pm1 an1 cd1 ct1), sl1⟩)
    (d1 : PySem.W.codeIn K cd1 "is_count" = true)
    (k1 : PySem.W.keepIn K (.ref f1) = true)
    (a2 : PySem.W.nsIn K mainGlobals "are_counts" = some (some (.ref f2)))
    (l2 : K.lookup f2 = some ⟨oc2, od2, .func (PySem.W.fnOf "are_counts" "are_counts" (defArgs sAre) (defBody sAre) (defScope sAre) .none kV2 dc2 pm2 an2 cd2 ct2), sl2⟩)
    (d2 : PySem.W.codeIn K cd2 "are_counts" = true)
    (k2 : PySem.W.keepIn K (.ref f2) = true)
    (a3 : PySem.W.nsIn K mainGlobals "_law_dice" = some (some (.ref f3)))
    (l3 : K.lookup f3 = some ⟨oc3, od3, .func (PySem.W.fnOf "_law_dice" "_law_dice" (defArgs sDice) (defBody sDice) (defScope sDice) .none kV3 dc3 pm3 an3 cd3 ct3), sl3⟩)
    (d3 : PySem.W.codeIn K cd3 "_law_dice" = true)
    (k3 : PySem.W.keepIn K (.ref f3) = true)
    (a4 : PySem.W.nsIn K mainGlobals "_law_roll" = some (some (.ref f4)))
    (l4 : K.lookup f4 = some ⟨oc4, od4, .func (PySem.W.fnOf "_law_roll" "_law_roll" (defArgs sRoll) (defBody sRoll) (defScope sRoll) .none kV4 dc4 pm4 an4 cd4 ct4), sl4⟩)
    (d4 : PySem.W.codeIn K cd4 "_law_roll" = true)
    (k4 : PySem.W.keepIn K (.ref f4) = true)
    (a5 : PySem.W.nsIn K mainGlobals "_law_pick" = some (some (.ref f5)))
    (l5 : K.lookup f5 = some ⟨oc5, od5, .func (PySem.W.fnOf "_law_pick" "_law_pick" (defArgs sPick) (defBody sPick) (defScope sPick) .none kV5 dc5 pm5 an5 cd5 ct5), sl5⟩)
    (d5 : PySem.W.codeIn K cd5 "_law_pick" = true)
    (k5 : PySem.W.keepIn K (.ref f5) = true)
    (a6 : PySem.W.nsIn K mainGlobals "_law_is_number" = some (some (.ref f6)))
    (l6 : K.lookup f6 = some ⟨oc6, od6, .func (PySem.W.fnOf "_law_is_number" "_law_is_number" (defArgs sIsNum) (defBody sIsNum) (defScope sIsNum) .none kV6 dc6 pm6 an6 cd6 ct6), sl6⟩)
    (d6 : PySem.W.codeIn K cd6 "_law_is_number" = true)
    (k6 : PySem.W.keepIn K (.ref f6) = true)
    (a7 : PySem.W.nsIn K mainGlobals "_law_are_numbers" = some (some (.ref f7)))
    (l7 : K.lookup f7 = some ⟨oc7, od7, .func (PySem.W.fnOf "_law_are_numbers" "_law_are_numbers" (defArgs sAreNum) (defBody sAreNum) (defScope sAreNum) .none kV7 dc7 pm7 an7 cd7 ct7), sl7⟩)
    (d7 : PySem.W.codeIn K cd7 "_law_are_numbers" = true)
    (k7 : PySem.W.keepIn K (.ref f7) = true)
    (a8 : PySem.W.nsIn K mainGlobals "_law_values" = some (some (.ref f8)))
    (l8 : K.lookup f8 = some ⟨oc8, od8, .func (PySem.W.fnOf "_law_values" "_law_values" (defArgs sVals) (defBody sVals) (defScope sVals) .none kV8 dc8 pm8 an8 cd8 ct8), sl8⟩)
    (d8 : PySem.W.codeIn K cd8 "_law_values" = true)
    (k8 : PySem.W.keepIn K (.ref f8) = true)
    (a9 : PySem.W.nsIn K mainGlobals "_law_words_right" = some (some (.ref f9)))
    (l9 : K.lookup f9 = some ⟨oc9, od9, .func (PySem.W.fnOf "_law_words_right" "_law_words_right" (defArgs sWords) (defBody sWords) (defScope sWords) .none kV9 dc9 pm9 an9 cd9 ct9), sl9⟩)
    (d9 : PySem.W.codeIn K cd9 "_law_words_right" = true)
    (k9 : PySem.W.keepIn K (.ref f9) = true)
    (a10 : PySem.W.nsIn K mainGlobals "_law_raised_by" = some (some (.ref f10)))
    (l10 : K.lookup f10 = some ⟨oc10, od10, .func (PySem.W.fnOf "_law_raised_by" "_law_raised_by" (defArgs sRaised) (defBody sRaised) (defScope sRaised) .none kV10 dc10 pm10 an10 cd10 ct10), sl10⟩)
    (d10 : PySem.W.codeIn K cd10 "_law_raised_by" = true)
    (k10 : PySem.W.keepIn K (.ref f10) = true)
    (a11 : PySem.W.nsIn K mainGlobals "_law_plain_errors" = some (some (.ref f11)))
    (l11 : K.lookup f11 = some ⟨oc11, od11, .func (PySem.W.fnOf "_law_plain_errors" "_law_plain_errors" (defArgs sPlain) (defBody sPlain) (defScope sPlain) .none kV11 dc11 pm11 an11 cd11 ct11), sl11⟩)
    (d11 : PySem.W.codeIn K cd11 "_law_plain_errors" = true)
    (k11 : PySem.W.keepIn K (.ref f11) = true)
    (a12 : PySem.W.nsIn K mainGlobals "_law_caught_by" = some (some (.ref f12)))
    (l12 : K.lookup f12 = some ⟨oc12, od12, .func (PySem.W.fnOf "_law_caught_by" "_law_caught_by" (defArgs sCaught) (defBody sCaught) (defScope sCaught) .none kV12 dc12 pm12 an12 cd12 ct12), sl12⟩)
    (d12 : PySem.W.codeIn K cd12 "_law_caught_by" = true)
    (k12 : PySem.W.keepIn K (.ref f12) = true)
    (a13 : PySem.W.nsIn K mainGlobals "_law_errors_right" = some (some (.ref f13)))
    (l13 : K.lookup f13 = some ⟨oc13, od13, .func (PySem.W.fnOf "_law_errors_right" "_law_errors_right" (defArgs sErr) (defBody sErr) (defScope sErr) .none kV13 dc13 pm13 an13 cd13 ct13), sl13⟩)
    (d13 : PySem.W.codeIn K cd13 "_law_errors_right" = true)
    (k13 : PySem.W.keepIn K (.ref f13) = true)
    (a14 : PySem.W.nsIn K mainGlobals "law" = some (some (.ref f14)))
    (l14 : K.lookup f14 = some ⟨oc14, od14, .func (PySem.W.fnOf "law" "law" (defArgs sLaw) (defBody sLaw) (defScope sLaw) .none kV14 dc14 pm14 an14 cd14 ct14), sl14⟩)
    (d14 : PySem.W.codeIn K cd14 "law" = true)
    (k14 : PySem.W.keepIn K (.ref f14) = true)
    (ape : PySem.W.findIn K (.ref pe) "__init__" = some (some (.ref fpe)))
    (ipe : PySem.W.typeIn K (.ref fpe) = some (.type "function"))
    (lpe : K.lookup fpe = some ⟨ocpe, odpe, .func (PySem.W.fnOf "__init__" "ParseError.__init__" (defArgs sIpe) (defBody sIpe) (defScope sIpe) .none kVpe dcpe pmpe anpe cdpe ctpe), slpe⟩)
    (dpe : PySem.W.codeIn K cdpe "ParseError.__init__" = true)
    (kpe : PySem.W.keepIn K (.ref fpe) = true)
    (qpe : PySem.W.excInitIn K pe [.type "ValueError", .type "Exception", .type "BaseException", .type "object"] "ValueError.__new__" = true)
    (ope : PySem.W.excOver K pe [.type "ValueError", .type "Exception", .type "BaseException", .type "object"] = true)
    (spe : PySem.W.findIn K (.ref pe) "__setattr__" = some (some (.builtin "object.__setattr__")))
    (ppe : PySem.W.keepIn K (.ref pe) = true)
    (tpe : PySem.W.takerIn K pe "number" = some none)
    (upe : PySem.W.findIn K (.ref pe) "number" = some none)
    (vpe : kit7B K cx pe true true false false false false false = true)
    (axn : PySem.W.findIn K (.ref xn) "__init__" = some (some (.ref fxn)))
    (ixn : PySem.W.typeIn K (.ref fxn) = some (.type "function"))
    (lxn : K.lookup fxn = some ⟨ocxn, odxn, .func (PySem.W.fnOf "__init__" "InvalidNumber.__init__" (defArgs sIxn) (defBody sIxn) (defScope sIxn) .none kVxn dcxn pmxn anxn cdxn ctxn), slxn⟩)
    (dxn : PySem.W.codeIn K cdxn "InvalidNumber.__init__" = true)
    (kxn : PySem.W.keepIn K (.ref fxn) = true)
    (qxn : PySem.W.excInitIn K xn [.type "IndexError", .type "LookupError", .type "Exception", .type "BaseException", .type "object"] "IndexError.__new__" = true)
    (oxn : PySem.W.excOver K xn [.type "IndexError", .type "LookupError", .type "Exception", .type "BaseException", .type "object"] = true)
    (sxn : PySem.W.findIn K (.ref xn) "__setattr__" = some (some (.builtin "object.__setattr__")))
    (pxn : PySem.W.keepIn K (.ref xn) = true)
    (txn : PySem.W.takerIn K xn "value" = some none)
    (uxn : PySem.W.findIn K (.ref xn) "value" = some none)
    (vxn : kit7B K cx xn false false true false false false false = true)
    (anu : PySem.W.findIn K (.ref nu) "__init__" = some (some (.ref fnu)))
    (inu : PySem.W.typeIn K (.ref fnu) = some (.type "function"))
    (lnu : K.lookup fnu = some ⟨ocnu, odnu, .func (PySem.W.fnOf "__init__" "NothingToUndo.__init__" (defArgs sInu) (defBody sInu) (defScope sInu) .none kVnu dcnu pmnu annu cdnu ctnu), slnu⟩)
    (dnu : PySem.W.codeIn K cdnu "NothingToUndo.__init__" = true)
    (knu : PySem.W.keepIn K (.ref fnu) = true)
    (qnu : PySem.W.excInitIn K nu [.type "RuntimeError", .type "Exception", .type "BaseException", .type "object"] "RuntimeError.__new__" = true)
    (onu : PySem.W.excOver K nu [.type "RuntimeError", .type "Exception", .type "BaseException", .type "object"] = true)
    (snu : PySem.W.findIn K (.ref nu) "__setattr__" = some (some (.builtin "object.__setattr__")))
    (pnu : PySem.W.keepIn K (.ref nu) = true)
    (tnu : PySem.W.takerIn K nu "asked" = some none)
    (unu : PySem.W.findIn K (.ref nu) "asked" = some none)
    (vnu : kit7B K cx nu false false false false true false false = true)
    (atm : PySem.W.findIn K (.ref tm) "__init__" = some (some (.ref ftm)))
    (itm : PySem.W.typeIn K (.ref ftm) = some (.type "function"))
    (ltm : K.lookup ftm = some ⟨octm, odtm, .func (PySem.W.fnOf "__init__" "TooMany.__init__" (defArgs sItm) (defBody sItm) (defScope sItm) .none kVtm dctm pmtm antm cdtm cttm), sltm⟩)
    (dtm : PySem.W.codeIn K cdtm "TooMany.__init__" = true)
    (ktm : PySem.W.keepIn K (.ref ftm) = true)
    (qtm : PySem.W.excInitIn K tm [.type "OverflowError", .type "ArithmeticError", .type "Exception", .type "BaseException", .type "object"] "OverflowError.__new__" = true)
    (otm : PySem.W.excOver K tm [.type "OverflowError", .type "ArithmeticError", .type "Exception", .type "BaseException", .type "object"] = true)
    (stm : PySem.W.findIn K (.ref tm) "__setattr__" = some (some (.builtin "object.__setattr__")))
    (ptm : PySem.W.keepIn K (.ref tm) = true)
    (ttm : PySem.W.takerIn K tm "limit" = some none)
    (utm : PySem.W.findIn K (.ref tm) "limit" = some none)
    (vtm : kit7B K cx tm false false false false false true true = true)
    (arf : PySem.W.findIn K (.ref rf) "__init__" = some (some (.ref frf)))
    (irf : PySem.W.typeIn K (.ref frf) = some (.type "function"))
    (lrf : K.lookup frf = some ⟨ocrf, odrf, .func (PySem.W.fnOf "__init__" "Refused.__init__" (defArgs sIrf) (defBody sIrf) (defScope sIrf) .none kVrf dcrf pmrf anrf cdrf ctrf), slrf⟩)
    (drf : PySem.W.codeIn K cdrf "Refused.__init__" = true)
    (krf : PySem.W.keepIn K (.ref frf) = true)
    (qrf : PySem.W.excInitIn K rf [.type "ArithmeticError", .type "Exception", .type "BaseException", .type "object"] "ArithmeticError.__new__" = true)
    (orf : PySem.W.excOver K rf [.type "ArithmeticError", .type "Exception", .type "BaseException", .type "object"] = true)
    (srf : PySem.W.findIn K (.ref rf) "__setattr__" = some (some (.builtin "object.__setattr__")))
    (prf : PySem.W.keepIn K (.ref rf) = true)
    (trf : PySem.W.takerIn K rf "pledge" = some none)
    (urf : PySem.W.findIn K (.ref rf) "pledge" = some none)
    (vrf : kit7B K cx rf false false false false false false true = true)
    (zx : ([c0, c1, c2, c3, c4, c5, c6, c7, c8, c9, c10, c11, c12, c13, c14, pe, xn, nu, tm, rf].all fun C => xcB K C) = true)
    (ze : ([c0, c1, c2, c3, c4, c5, c6, c7, c8, c9, c10, c11, c12, c13, c14].all fun C => PySem.W.excIn K C [.type "ValueError", .type "Exception", .type "BaseException", .type "object"] "ValueError.__new__" && PySem.W.keepIn K (.ref C)) = true)
    (z7 : ([c0, c1, c2, c3, c4, c5, c6, c7, c8, c9, c10, c11, c12, c13, c14].all fun C => kit7B K cx C true true false false false false false) = true)
    (zp : ([c0, c1, c2, c3, c4, c5, c6, c7, c8, c9, c10, c11, c12, c13, c14].all fun C => kitB2 K C (.ref pe) false) = true)
    (z15 : ((List.range 15).all fun i => pairB K ([c0, c1, c2, c3, c4, c5, c6, c7, c8, c9, c10, c11, c12, c13, c14].getD i 0) [c0, c1, c2, c3, c4, c5, c6, c7, c8, c9, c10, c11, c12, c13, c14] (bsAt i)) = true) :
    ∃ fd : FuncData, (∀ (s : Shared) (v : Value), BindsTo s fd ⟨[v], []⟩ [("_law_script", v)]) ∧ ∀ base : Heap, K.In base → base.Ns mainGlobals mg → (∃ mm, base.Ns sysModules mm) → FnG l.prog w K mg base 5 fa fd ["_law_script"] (spLaw K) := by
  have e := hfa.symm.trans (PySem.W.mg_of X G a14)
  cases e
  have T : TxA mg := ⟨PySem.W.mg_none_of X G nisinstance, PySem.W.mg_none_of X G nint, PySem.W.mg_none_of X G nbool, PySem.W.mg_none_of X G ntuple, PySem.W.mg_none_of X G nabs, PySem.W.mg_none_of X G nall, PySem.W.mg_none_of X G nlen, PySem.W.mg_none_of X G nmax, PySem.W.mg_none_of X G nmin,
    PySem.W.mg_none_of X G nrange, PySem.W.mg_none_of X G nrepr, PySem.W.mg_none_of X G nenumerate, hlong, ⟨_, PySem.W.mg_of X G aFig⟩⟩
  have B : TxB mg cx := ⟨PySem.W.mg_of X G aCx, PySem.W.mg_none_of X G nValueError, PySem.W.mg_none_of X G nIndexError, PySem.W.mg_none_of X G nKeyError, PySem.W.mg_none_of X G nRuntimeError, PySem.W.mg_none_of X G nOverflowError, PySem.W.mg_none_of X G nArithmeticError⟩
  have xc : ∀ C ∈ [c0, c1, c2, c3, c4, c5, c6, c7, c8, c9, c10, c11, c12, c13, c14, pe, xn, nu, tm, rf], XcC K C := fun C hC => xcB_ok (List.all_eq_true.mp zx C hC)
  have xs : ∀ C ∈ [c0, c1, c2, c3, c4, c5, c6, c7, c8, c9, c10, c11, c12, c13, c14], XcC K C := fun C hC => xc C (List.mem_append_left [pe, xn, nu, tm, rf] hC)
  have Pl : TxP K mg c0 c1 c2 c3 c4 c5 c6 c7 c8 c9 c10 c11 c12 c13 c14 := ⟨PySem.W.mg_of X G aC0, PySem.W.mg_of X G aC1, PySem.W.mg_of X G aC2, PySem.W.mg_of X G aC3, PySem.W.mg_of X G aC4, PySem.W.mg_of X G aC5, PySem.W.mg_of X G aC6, PySem.W.mg_of X G aC7, PySem.W.mg_of X G aC8, PySem.W.mg_of X G aC9, PySem.W.mg_of X G aC10, PySem.W.mg_of X G aC11, PySem.W.mg_of X G aC12, PySem.W.mg_of X G aC13, PySem.W.mg_of X G aC14, fun C hC => by
    have z := List.all_eq_true.mp ze C hC
    exact Bool.and_eq_true_iff.mp z⟩
  have E : TxE K mg [c0, c1, c2, c3, c4, c5, c6, c7, c8, c9, c10, c11, c12, c13, c14] cx pe xn nu tm rf := ⟨fun C hC => kit7_ok (xs C hC) (List.all_eq_true.mp z7 C hC), fun i C hC => by
    have hi : i < 15 := (List.getElem?_eq_some_iff.mp hC).1
    have z := List.all_eq_true.mp z15 i (List.mem_range.mpr hi)
    have e : [c0, c1, c2, c3, c4, c5, c6, c7, c8, c9, c10, c11, c12, c13, c14].getD i 0 = C := by rw [List.getD_eq_getElem?_getD, hC]; rfl
    rw [e] at z
    exact pair_ok z, fun C hC => of_decide_eq_true (List.all_eq_true.mp zp C hC), kit7_ok (xc pe (by simp)) vpe, kit7_ok (xc xn (by simp)) vxn, kit7_ok (xc nu (by simp)) vnu, kit7_ok (xc tm (by simp)) vtm, kit7_ok (xc rf (by simp)) vrf⟩
  have F0 := fun_mk (st := sIsInt) l0 d0 k0
  have b0 := F0.binds (ps := ["value"]) fun _ _ _ _ _ _ us hl => match us, hl with | [_], _ => rfl
  have D0 : Df K mg "is_integer" ["value"] f0 _ := ⟨PySem.W.mg_of X G a0, k0, b0⟩
  have F1 := fun_mk (st := sIsCnt) l1 d1 k1
  have b1 := F1.binds (ps := ["value"]) fun _ _ _ _ _ _ us hl => match us, hl with | [_], _ => rfl
  have D1 : Df K mg "is_count" ["value"] f1 _ := ⟨PySem.W.mg_of X G a1, k1, b1⟩
  have F2 := fun_mk (st := sAre) l2 d2 k2
  have b2 := F2.binds (ps := ["value"]) fun _ _ _ _ _ _ us hl => match us, hl with | [_], _ => rfl
  have D2 : Df K mg "are_counts" ["value"] f2 _ := ⟨PySem.W.mg_of X G a2, k2, b2⟩
  have F3 := fun_mk (st := sDice) l3 d3 k3
  have b3 := F3.binds (ps := ["_law_script", "_law_spot"]) fun _ _ _ _ _ _ us hl => match us, hl with | [_, _], _ => rfl
  have D3 : Df K mg "_law_dice" ["_law_script", "_law_spot"] f3 _ := ⟨PySem.W.mg_of X G a3, k3, b3⟩
  have F4 := fun_mk (st := sRoll) l4 d4 k4
  have b4 := F4.binds (ps := ["_law_dice_here", "_law_total"]) fun _ _ _ _ _ _ us hl => match us, hl with | [_, _], _ => rfl
  have D4 : Df K mg "_law_roll" ["_law_dice_here", "_law_total"] f4 _ := ⟨PySem.W.mg_of X G a4, k4, b4⟩
  have F5 := fun_mk (st := sPick) l5 d5 k5
  have b5 := F5.binds (ps := ["_law_dice_here", "_law_items"]) fun _ _ _ _ _ _ us hl => match us, hl with | [_, _], _ => rfl
  have D5 : Df K mg "_law_pick" ["_law_dice_here", "_law_items"] f5 _ := ⟨PySem.W.mg_of X G a5, k5, b5⟩
  have F6 := fun_mk (st := sIsNum) l6 d6 k6
  have b6 := F6.binds (ps := ["_law_value"]) fun _ _ _ _ _ _ us hl => match us, hl with | [_], _ => rfl
  have D6 : Df K mg "_law_is_number" ["_law_value"] f6 _ := ⟨PySem.W.mg_of X G a6, k6, b6⟩
  have F7 := fun_mk (st := sAreNum) l7 d7 k7
  have b7 := F7.binds (ps := ["_law_value"]) fun _ _ _ _ _ _ us hl => match us, hl with | [_], _ => rfl
  have D7 : Df K mg "_law_are_numbers" ["_law_value"] f7 _ := ⟨PySem.W.mg_of X G a7, k7, b7⟩
  have F8 := fun_mk (st := sVals) l8 d8 k8
  have b8 := F8.binds (ps := ["_law_dice_here"]) fun _ _ _ _ _ _ us hl => match us, hl with | [_], _ => rfl
  have D8 : Df K mg "_law_values" ["_law_dice_here"] f8 _ := ⟨PySem.W.mg_of X G a8, k8, b8⟩
  have F9 := fun_mk (st := sWords) l9 d9 k9
  have b9 := F9.binds (ps := ["_law_dice_here"]) fun _ _ _ _ _ _ us hl => match us, hl with | [_], _ => rfl
  have D9 : Df K mg "_law_words_right" ["_law_dice_here"] f9 _ := ⟨PySem.W.mg_of X G a9, k9, b9⟩
  have F10 := fun_mk (st := sRaised) l10 d10 k10
  have b10 := F10.binds (ps := ["_law_error"]) fun _ _ _ _ _ _ us hl => match us, hl with | [_], _ => rfl
  have D10 : Df K mg "_law_raised_by" ["_law_error"] f10 _ := ⟨PySem.W.mg_of X G a10, k10, b10⟩
  have F11 := fun_mk (st := sPlain) l11 d11 k11
  have b11 := F11.binds (ps := []) fun _ _ _ _ _ _ us hl => match us, hl with | [], _ => rfl
  have D11 : Df K mg "_law_plain_errors" [] f11 _ := ⟨PySem.W.mg_of X G a11, k11, b11⟩
  have F12 := fun_mk (st := sCaught) l12 d12 k12
  have b12 := F12.binds (ps := ["_law_error"]) fun _ _ _ _ _ _ us hl => match us, hl with | [_], _ => rfl
  have D12 : Df K mg "_law_caught_by" ["_law_error"] f12 _ := ⟨PySem.W.mg_of X G a12, k12, b12⟩
  have F13 := fun_mk (st := sErr) l13 d13 k13
  have b13 := F13.binds (ps := ["_law_dice_here"]) fun _ _ _ _ _ _ us hl => match us, hl with | [_], _ => rfl
  have D13 : Df K mg "_law_errors_right" ["_law_dice_here"] f13 _ := ⟨PySem.W.mg_of X G a13, k13, b13⟩
  have F14 := fun_mk (st := sLaw) l14 d14 k14
  have b14 := F14.binds (ps := ["_law_script"]) fun _ _ _ _ _ _ us hl => match us, hl with | [_], _ => rfl
  have Fpe := fun_mk (st := sIpe) lpe dpe kpe
  have bpe := Fpe.binds (ps := ["self", "number"]) fun _ _ _ _ _ _ us hl => match us, hl with | [_, _], _ => rfl
  have Xpe : ExB K pe [.type "ValueError", .type "Exception", .type "BaseException", .type "object"] "ValueError.__new__" := ⟨qpe, ope, (xc pe (by simp)).hd, spe, ppe⟩
  have Ope : OwnE K mg "ParseError" "number" [.type "ValueError", .type "Exception", .type "BaseException", .type "object"] "ValueError.__new__" pe fpe _ := ⟨Xpe, PySem.W.mg_of X G aEpe, ape, ipe, bpe, upe⟩
  have Fxn := fun_mk (st := sIxn) lxn dxn kxn
  have bxn := Fxn.binds (ps := ["self", "value"]) fun _ _ _ _ _ _ us hl => match us, hl with | [_, _], _ => rfl
  have Xxn : ExB K xn [.type "IndexError", .type "LookupError", .type "Exception", .type "BaseException", .type "object"] "IndexError.__new__" := ⟨qxn, oxn, (xc xn (by simp)).hd, sxn, pxn⟩
  have Oxn : OwnE K mg "InvalidNumber" "value" [.type "IndexError", .type "LookupError", .type "Exception", .type "BaseException", .type "object"] "IndexError.__new__" xn fxn _ := ⟨Xxn, PySem.W.mg_of X G aExn, axn, ixn, bxn, uxn⟩
  have Fnu := fun_mk (st := sInu) lnu dnu knu
  have bnu := Fnu.binds (ps := ["self", "asked"]) fun _ _ _ _ _ _ us hl => match us, hl with | [_, _], _ => rfl
  have Xnu : ExB K nu [.type "RuntimeError", .type "Exception", .type "BaseException", .type "object"] "RuntimeError.__new__" := ⟨qnu, onu, (xc nu (by simp)).hd, snu, pnu⟩
  have Onu : OwnE K mg "NothingToUndo" "asked" [.type "RuntimeError", .type "Exception", .type "BaseException", .type "object"] "RuntimeError.__new__" nu fnu _ := ⟨Xnu, PySem.W.mg_of X G aEnu, anu, inu, bnu, unu⟩
  have Ftm := fun_mk (st := sItm) ltm dtm ktm
  have btm := Ftm.binds (ps := ["self", "limit"]) fun _ _ _ _ _ _ us hl => match us, hl with | [_, _], _ => rfl
  have Xtm : ExB K tm [.type "OverflowError", .type "ArithmeticError", .type "Exception", .type "BaseException", .type "object"] "OverflowError.__new__" := ⟨qtm, otm, (xc tm (by simp)).hd, stm, ptm⟩
  have Otm : OwnE K mg "TooMany" "limit" [.type "OverflowError", .type "ArithmeticError", .type "Exception", .type "BaseException", .type "object"] "OverflowError.__new__" tm ftm _ := ⟨Xtm, PySem.W.mg_of X G aEtm, atm, itm, btm, utm⟩
  have Frf := fun_mk (st := sIrf) lrf drf krf
  have brf := Frf.binds (ps := ["self", "pledge"]) fun _ _ _ _ _ _ us hl => match us, hl with | [_, _], _ => rfl
  have Xrf : ExB K rf [.type "ArithmeticError", .type "Exception", .type "BaseException", .type "object"] "ArithmeticError.__new__" := ⟨qrf, orf, (xc rf (by simp)).hd, srf, prf⟩
  have Orf : OwnE K mg "Refused" "pledge" [.type "ArithmeticError", .type "Exception", .type "BaseException", .type "object"] "ArithmeticError.__new__" rf frf _ := ⟨Xrf, PySem.W.mg_of X G aErf, arf, irf, brf, urf⟩
  refine ⟨PySem.W.fnOf "law" "law" (defArgs sLaw) (defBody sLaw) (defScope sLaw) .none kV14 dc14 pm14 an14 cd14 ct14, fun s v => .of_eq rfl, fun base _ _ hm => ?_⟩
  have GI := ok_isint (P := l.prog) (w := w) (base := base) F0 T
  have GCn := ok_iscnt (P := l.prog) (w := w) (base := base) F1 GI D0
  have GS := ok_are (P := l.prog) (w := w) (base := base) F2 T GCn D1
  have GD := ok_dice (P := l.prog) (w := w) (base := base) F3 T
  have GR := ok_roll (P := l.prog) (w := w) (base := base) F4 T
  have GPk := ok_pick (P := l.prog) (w := w) (base := base) F5 T GR D4
  have GN := ok_isnum (P := l.prog) (w := w) (base := base) F6 T
  have GA := ok_arenum (P := l.prog) (w := w) (base := base) F7 T GN D6
  have GV := ok_vals (P := l.prog) (w := w) (base := base) F8 T GR D4
  have GW := ok_words (P := l.prog) (w := w) (base := base) F9 T hm GV D8 GN D6 GA D7 GI D0 GCn D1 GS D2
  have GRa := ok_raised (P := l.prog) (w := w) (base := base) F10 T B
  have GPl := ok_plain (Pr := l.prog) (w := w) (base := base) F11 Pl
  have GCa := ok_caught (P := l.prog) (w := w) (base := base) F12 T Pl
  have Gpe := ok_pe (P := l.prog) (w := w) (base := base) (mg := mg) Fpe Xpe tpe
  have Gxn := ok_xn (P := l.prog) (w := w) (base := base) (mg := mg) Fxn Xxn txn
  have Gnu := ok_nu (P := l.prog) (w := w) (base := base) (mg := mg) Fnu Xnu tnu
  have Gtm := ok_tm (P := l.prog) (w := w) (base := base) (mg := mg) Ftm Xtm ttm
  have Grf := ok_rf (P := l.prog) (w := w) (base := base) (mg := mg) Frf Xrf trf
  have GE := ok_err (P := l.prog) (w := w) (base := base) F13 T hm GV D8 GPk D5 GRa D10 GPl D11 GCa D12 Gpe Ope Gxn Oxn Gnu Onu Gtm Otm Grf Orf E
  exact ok_law F14 T GD D3 GW D9 GE D13
end Xgd
open PySem PySem.W PyProof.Rows
open_top head for PySem.Challenge.rw_crosswebs_k00_words_and_errors
set_option maxHeartbeats 0 in
theorem PySem.Challenge.cw_crosswebs_k00_words_and_errors_holds : PySem.Challenge.rw_crosswebs_k00_words_and_errors.Holds := by
  refine head ?_
  k_fill
  refine Xgd.walkG (l := PySem.Challenge.rw_crosswebs_k00_words_and_errors) (n := 63) (k := 5) (x := "_law_script") (sp := fun K => Xgd.spLaw K) rfl (by decide) rfl ⟨rfl, by decide, by decide⟩ (by decide +kernel) (fun w h Y => PySem.W.kIn_of Y) ?F (fun K H a ns hl _ hS => ⟨a, ns, rfl, hS, hl, fun _ => rfl⟩)
  case F =>
    intro w mg fa h KX G hX hmg
    refine' Xgd.all_mk KX G (Xgd.long_of hX) hmg ?nisinstance ?nint ?nbool ?ntuple ?nabs ?nall ?nlen ?nmax ?nmin ?nrange ?nrepr ?nenumerate ?nValueError ?nIndexError ?nKeyError ?nRuntimeError ?nOverflowError ?nArithmeticError ?aFig ?aCx ?aC0 ?aC1 ?aC2 ?aC3 ?aC4 ?aC5 ?aC6 ?aC7 ?aC8 ?aC9 ?aC10 ?aC11 ?aC12 ?aC13 ?aC14 ?aEpe ?aExn ?aEnu ?aEtm ?aErf ?a0 ?l0 ?d0 ?k0 ?a1 ?l1 ?d1 ?k1 ?a2 ?l2 ?d2 ?k2 ?a3 ?l3 ?d3 ?k3 ?a4 ?l4 ?d4 ?k4 ?a5 ?l5 ?d5 ?k5 ?a6 ?l6 ?d6 ?k6 ?a7 ?l7 ?d7 ?k7 ?a8 ?l8 ?d8 ?k8 ?a9 ?l9 ?d9 ?k9 ?a10 ?l10 ?d10 ?k10 ?a11 ?l11 ?d11 ?k11 ?a12 ?l12 ?d12 ?k12 ?a13 ?l13 ?d13 ?k13 ?a14 ?l14 ?d14 ?k14 ?ape ?ipe ?lpe ?dpe ?kpe ?qpe ?ope ?spe ?ppe ?tpe ?upe ?vpe ?axn ?ixn ?lxn ?dxn ?kxn ?qxn ?oxn ?sxn ?pxn ?txn ?uxn ?vxn ?anu ?inu ?lnu ?dnu ?knu ?qnu ?onu ?snu ?pnu ?tnu ?unu ?vnu ?atm ?itm ?ltm ?dtm ?ktm ?qtm ?otm ?stm ?ptm ?ttm ?utm ?vtm ?arf ?irf ?lrf ?drf ?krf ?qrf ?orf ?srf ?prf ?trf ?urf ?vrf ?zx ?ze ?z7 ?zp ?z15
    (case nisinstance => k_is)
    (case nint => k_is)
    (case nbool => k_is)
    (case ntuple => k_is)
    (case nabs => k_is)
    (case nall => k_is)
    (case nlen => k_is)
    (case nmax => k_is)
    (case nmin => k_is)
    (case nrange => k_is)
    (case nrepr => k_is)
    (case nenumerate => k_is)
    (case nValueError => k_is)
    (case nIndexError => k_is)
    (case nKeyError => k_is)
    (case nRuntimeError => k_is)
    (case nOverflowError => k_is)
    (case nArithmeticError => k_is)
    (case aFig => k_is)
    (case aCx => k_is)
    (case aC0 => k_is)
    (case aC1 => k_is)
    (case aC2 => k_is)
    (case aC3 => k_is)
    (case aC4 => k_is)
    (case aC5 => k_is)
    (case aC6 => k_is)
    (case aC7 => k_is)
    (case aC8 => k_is)
    (case aC9 => k_is)
    (case aC10 => k_is)
    (case aC11 => k_is)
    (case aC12 => k_is)
    (case aC13 => k_is)
    (case aC14 => k_is)
    (case aEpe => k_is)
    (case aExn => k_is)
    (case aEnu => k_is)
    (case aEtm => k_is)
    (case aErf => k_is)
    (case a0 => k_is)
    (case l0 => k_is)
    (case d0 => k_is)
    (case k0 => k_is)
    (case a1 => k_is)
    (case l1 => k_is)
    (case d1 => k_is)
    (case k1 => k_is)
    (case a2 => k_is)
    (case l2 => k_is)
    (case d2 => k_is)
    (case k2 => k_is)
    (case a3 => k_is)
    (case l3 => k_is)
    (case d3 => k_is)
    (case k3 => k_is)
    (case a4 => k_is)
    (case l4 => k_is)
    (case d4 => k_is)
    (case k4 => k_is)
    (case a5 => k_is)
    (case l5 => k_is)
    (case d5 => k_is)
    (case k5 => k_is)
    (case a6 => k_is)
    (case l6 => k_is)
    (case d6 => k_is)
    (case k6 => k_is)
    (case a7 => k_is)
    (case l7 => k_is)
    (case d7 => k_is)
    (case k7 => k_is)
    (case a8 => k_is)
    (case l8 => k_is)
    (case d8 => k_is)
    (case k8 => k_is)
    (case a9 => k_is)
    (case l9 => k_is)
    (case d9 => k_is)
    (case k9 => k_is)
    (case a10 => k_is)
    (case l10 => k_is)
    (case d10 => k_is)
    (case k10 => k_is)
    (case a11 => k_is)
    (case l11 => k_is)
    (case d11 => k_is)
    (case k11 => k_is)
    (case a12 => k_is)
    (case l12 => k_is)
    (case d12 => k_is)
    (case k12 => k_is)
    (case a13 => k_is)
    (case l13 => k_is)
    (case d13 => k_is)
    (case k13 => k_is)
    (case a14 => k_is)
    (case l14 => k_is)
    (case d14 => k_is)
    (case k14 => k_is)
    (case ape => k_is)
    (case ipe => k_is)
    (case lpe => k_is)
    (case dpe => k_is)
    (case kpe => k_is)
    (case qpe => kernel_rfl)
    (case ope => kernel_rfl)
    (case spe => k_is)
    (case ppe => k_is)
    (case tpe => k_is)
    (case upe => k_is)
    (case vpe => kernel_rfl)
    (case axn => k_is)
    (case ixn => k_is)
    (case lxn => k_is)
    (case dxn => k_is)
    (case kxn => k_is)
    (case qxn => kernel_rfl)
    (case oxn => kernel_rfl)
    (case sxn => k_is)
    (case pxn => k_is)
    (case txn => k_is)
    (case uxn => k_is)
    (case vxn => kernel_rfl)
    (case anu => k_is)
    (case inu => k_is)
    (case lnu => k_is)
    (case dnu => k_is)
    (case knu => k_is)
    (case qnu => kernel_rfl)
    (case onu => kernel_rfl)
    (case snu => k_is)
    (case pnu => k_is)
    (case tnu => k_is)
    (case unu => k_is)
    (case vnu => kernel_rfl)
    (case atm => k_is)
    (case itm => k_is)
    (case ltm => k_is)
    (case dtm => k_is)
    (case ktm => k_is)
    (case qtm => kernel_rfl)
    (case otm => kernel_rfl)
    (case stm => k_is)
    (case ptm => k_is)
    (case ttm => k_is)
    (case utm => k_is)
    (case vtm => kernel_rfl)
    (case arf => k_is)
    (case irf => k_is)
    (case lrf => k_is)
    (case drf => k_is)
    (case krf => k_is)
    (case qrf => kernel_rfl)
    (case orf => kernel_rfl)
    (case srf => k_is)
    (case prf => k_is)
    (case trf => k_is)
    (case urf => k_is)
    (case vrf => kernel_rfl)
    (case zx => kernel_rfl)
    (case ze => kernel_rfl)
    (case z7 => kernel_rfl)
    (case zp => kernel_rfl)
    (case z15 => kernel_rfl)
