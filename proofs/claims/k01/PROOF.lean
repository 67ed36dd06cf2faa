import PyProof.Rows.All
import Wide.All
import OpenK.AllK
import Wide.FinOn
import PyProof.EqAt
import PyProof.EqKinds
import PyProof.TupleCall
import KE.KExcIs
import HandS.ForMost
import HandS.ForExc
import HandS.ExcInit
import HandS.ExcValue
import HandS.ExcField
import HandS.IsInst
import HandS.Defaults
import HandS.Wide
import PySem.Challenge.RW_wordorder_k01_errors_and_their_values
set_option Elab.async false
set_option linter.all false
set_option maxRecDepth 100000
set_option maxHeartbeats 4000000
/-! A layer of our own over the hand layer: defs that call repr (no repr under way: FnG), repr of data, exceptions with an own __init__ as values. -/
namespace Wk
open PySem PySem.Spec PyProof.Rows L2

/-! ### defs under which no repr is under way -/
/-- the promise of a def, asked only where no repr is under way -/
structure FnG (P : Program) (w : World) (K : PySem.W.Frag) (mg : Str → Option Value) (base : Heap) (CX : CXT)
    (k : Nat) (f : Addr) (fd : FuncData) (ps : List Str) (sp : Sp) : Prop where
  args : ∀ vs H Q E, sp vs H Q E → vs.length = ps.length
  go : ∀ (A : Around) (out : List Env) (s : Shared) (H : Hp) (ar : Args) (us : List Value) (vs : List V) (Q : VK) (E : XK),
    A.guards = some [] → Room k A → Env0 P w K mg base A out s H → BindsTo s fd ar (ps.zip us) → Vals vs us →
    sp vs H Q E → codeAny (model P w) A (.call (.ref f) ar) (CR CX out P w H s Q E) s

section
variable {P : Program} {w : World} {K : PySem.W.Frag} {mg : Str → Option Value} {base : Heap} {CX : CXT}
variable {k : Nat} {f : Addr} {fd : FuncData} {ps : List Str} {sp : Sp}

theorem FnG.of (F : FnOk P w K mg base CX k f fd ps sp) : FnG P w K mg base CX k f fd ps sp :=
  ⟨F.len, fun A out s H ar us vs Q E _ r e b v q => F.run A out s H ar us vs Q E r e b v q⟩

/-- a def by its body -/
theorem fnG_of {name qual : Str} {params : Arguments} {body : List Stmt} {scope : Scope} {dV kV doc pm cdv ct oc : Value} {an od : Option Addr}
    {osl : Array (Option Value)} {N : List Str}
    (lk : K.lookup f = some ⟨oc, od, .func (PySem.W.fnOf name qual params body scope dV kV doc pm an cdv ct), osl⟩)
    (code : PySem.W.codeIn K cdv qual = true) (S : FnScope N ps scope) (args : ∀ vs H Q E, sp vs H Q E → vs.length = ps.length)
    (hb : ∀ (A : Around) (out : List Env) (s : Shared) (H : Hp) (vs : List V) (Q : VK) (E : XK), A.guards = some [] →
      Room k (A.deeper (envOfC qual scope s.heap.objs.size f cdv)) → sp vs H Q E →
      ∃ t, PSs (cxOf CX P w K mg base N qual scope f cdv A out s H E) body t ∧ t { nx := fun _ H' => Q .non H', rt := Q } (start N vs) H) :
    FnG P w K mg base CX (k + 1) f (PySem.W.fnOf name qual params body scope dV kV doc pm an cdv ct) ps sp := by
  refine ⟨args, ?_⟩
  intro A out s H ar us vs Q E gd room e0 bt rv want
  have nargs := args vs H Q E want
  have inK : K.In s.heap := e0.mod.kin.keeps (fun b o z => (e0.bs b o z).1)
  have noL : s.heap.NoLimit := e0.mod.nolimit.keeps (fun b o z => (e0.bs b o z).1)
  have kinds : ∀ y ∈ ps.zip us, scope.names.lookup y.1 = some .local ∨
      (scope.names.lookup y.1 = some .cell ∧ ((cellsFrom (s.heap.objs.size + 1) scope.names []).lookup y.1).isSome = true) := by
    intro y hy
    have hm := (List.of_mem_zip (show (y.1, y.2) ∈ ps.zip us from hy)).1
    cases S.par y.1 hm with
    | inl q => exact Or.inl q
    | inr q => exact Or.inr ⟨q, PySem.W.cellsFrom_some _ _ _ (Or.inl q)⟩
  refine codeAny_call_function room.depth (inK _ _ lk) rfl S.co S.gen rfl (PySem.W.codeRec_of inK code) (bt _ _ _ _ ?_)
  refine wpAny_newFunctionEnv_cells S.kind kinds fun env he s1 x => ?_
  cases he
  refine ⟨noL.keeps x.toInCall.keep, codeAny_func ?_⟩
  obtain ⟨t, ht, hq⟩ := hb A out s H vs Q E gd (room.deeper _) want
  have I := inv_start (CX := CX) (P := P) (w := w) (K := K) (mg := mg) (base := base) (E := E) S room.hd e0 nargs rv x
  refine wpAny_mono (ht.run [] s1 (start N vs) H _ I hq) ?_ (fun _ _ z => z)
  intro fl s' hs
  cases fl with
  | ret u =>
    obtain ⟨v, σ', H', J, r', q⟩ := hs
    exact ⟨v, H', J.os, J.bare, J.base, J.hok, r', q⟩
  | next =>
    obtain ⟨σ', H', J, q⟩ := hs
    exact ⟨V.non, H', J.os, J.bare, J.base, J.hok, rfl, q⟩
  | brk => obtain ⟨_, _, _, q⟩ := hs; exact q.elim
  | cont => obtain ⟨_, _, _, q⟩ := hs; exact q.elim
end

/-- the short word for it: nothing leaves the def -/
theorem okG {P : Program} {w : World} {K : PySem.W.Frag} {mg : Str → Option Value} {base : Heap} {x qual : Str} {st : Stmt} {f : Addr} {fd : FuncData}
    {N ps : List Str} {k : Nat} {sp : Sp} (F : Fun K x qual st f fd) (S : FnScope N ps (defScope st)) (args : ∀ vs H Q E, sp vs H Q E → vs.length = ps.length)
    (hb : ∀ (cdv : Value) (A : Around) (out : List Env) (s : Shared) (H : Hp) (vs : List V) (Q : VK) (E : XK), A.guards = some [] →
      Room k (A.deeper (envOfC qual (defScope st) s.heap.objs.size f cdv)) → sp vs H Q E →
      ∃ t, PSs (cxOf CX0 P w K mg base N qual (defScope st) f cdv A out s H E).nox (defBody st) t ∧ t { nx := fun _ H' => Q .non H', rt := Q } (start N vs) H) :
    FnG P w K mg base CX0 (k + 1) f fd ps sp := by
  obtain ⟨oc, od, kV, doc, pm, an, cdv, ct, osl, rfl, lk, code⟩ := F.ex
  refine fnG_of lk code S args ?_
  intro A out s H vs Q E gd room want
  obtain ⟨t, h, q⟩ := hb cdv A out s H vs Q E gd room want
  exact ⟨t, h.nox, q⟩

section
variable {X : Cx} {CX : CXT} {k : Nat} {f : Addr} {fd : FuncData} {ps : List Str} {sp : Sp} {dvs : List V} {ds : List Value} {E : XK}
/-- f(e, ..) of such a def -/
theorem pe_callG {x : Str} {p pos : Pos} {e : Expr} {es : List Expr} {t : TA} (F : FnG X.prog X.w X.K X.mg X.base CX k f fd ps sp) (gd : X.A.guards = some []) (hr : Room k X.A)
    (hg : Gl X x) (hm : X.mg x = some (.ref f)) (hk : PySem.W.keepIn X.K (.ref f) = true) (hb : Binds X.K fd ps ds) (hd : Vals dvs ds) (hx : Passes CX X E) (ha : PA X (e :: es) t)
    (hdb : (x == ("__debug__" : Str)) = false := by decide) (he : starEach (e :: es) X.env = (false, eval e X.env) :: starEach es X.env := by rfl)
    (hpl : (backTo pos (starEach es X.env)).any (·.1) = false := by rfl) :
    PE X (.Call (.Name x p) (e :: es) [] pos) (tCall sp dvs E t) := by
  constructor
  intro pins s σ H Q I h
  refine wpAny_Call_Name_kw (ld_glob I hg hm ?_ hdb)
  refine PySem.W.callWith_K (h₀ := X.base) I.ok.mod.kin hk (thn (ha.run pos pins s σ H _ I h) ?_) he hpl
  rintro us s1 ⟨vs, H1, I1, r, q⟩
  refine ⟨I1.kIn, ?_⟩
  have r2 : Vals (vs ++ dvs) (us ++ ds) := r.append hd
  have hl : (us ++ ds).length = ps.length := r2.length.symm.trans (F.args _ _ _ _ q)
  refine wpAny_call (codeAny_mono (F.go X.A X.stack s1 H1 ⟨us, []⟩ (us ++ ds) (vs ++ dvs) Q E gd hr I1.env0 (hb s1 us I1.kIn hl) r2 q) ?_)
  intro r s' hq
  match r, hq with
  | .error e, hq => exact hx pins σ H1 s1 e s' I1 hq
  | .ok (.ret u), hq => exact I1.after hq
end

/-- the law's own call -/
theorem law_callG {P : Program} {w : World} {K : PySem.W.Frag} {mg mb : Str → Option Value} {CX : CXT} {k : Nat} {fa a : Addr} {fd : FuncData} {x : Str} {sp : Sp} {s1 : Shared} {vs : List Value} {ns : List Int}
    (KX : K.In s1.heap) (hns : s1.heap.Ns mainGlobals mg) (hb : s1.heap.Ns builtinsNs mb) (hbb : ∀ x : Str, x ≠ "__name__" → mb x = bootBuiltins x) (hlim : s1.heap.NoLimit) (hg : s1.gens = #[])
    (ha : s1.heap.get? a = some { cls := .type "list", data := .seq vs.toArray }) (hi : IntsAre vs ns) (hl : ns.length ≤ sizeLine) (hr : Room k callerA)
    (F : ∀ base : Heap, K.In base → base.Ns mainGlobals mg → FnG P w K mg base CX k fa fd [x] sp) (hbind : ∀ (s : Shared) (u : Value), BindsTo s fd ⟨[u], []⟩ [(x, u)])
    (hsp : ∀ H : Hp, Only H → SqL K H a (ns.map V.int) → sp [.ref a] H (fun v _ => v = .bl true) fun _ _ _ => False)
    (hCX : ∀ H e s', CX [] H s1 (fun _ _ _ => False) e s' → False) :
    codeAny (model P w) callerA (.call (.ref fa) ⟨[.ref a], []⟩) (fun r s' => r = .ok (.ret (.bool true)) ∧ OldK s1.heap s'.heap ∧ s'.os = s1.os ∧ AllBare s'.gens) s1 := by
  -- the promise at this one state, as a promise of any surroundings: the run is asked at callerA alone
  have rv := vals_ints hi
  have lenV := hi.length
  have main : ∀ H : Hp, Only H → SqL K H a (ns.map V.int) → HOk P w H s1.heap → (∀ b, H b ≠ none → b = a) → (H a ≠ none → K.lookup a = none) →
      codeAny (model P w) callerA (.call (.ref fa) ⟨[.ref a], []⟩) (fun r s' => r = .ok (.ret (.bool true)) ∧ OldK s1.heap s'.heap ∧ s'.os = s1.os ∧ AllBare s'.gens) s1 := by
    intro H only sq ok atA notK
    have freeDict : ∀ {b : Addr} {o : Obj} {es : Array DictEntry} {ep : Nat}, s1.heap.get? b = some o → o.data = .dict es ep → H b = none := by
      intro b o es ep e d
      cases q : H b with
      | none => rfl
      | some u =>
        have e' := atA b (by rw [q]; exact fun z => nomatch z)
        subst e'
        rw [ha] at e
        cases e
        cases d
    have nsIn : ∀ {b : Addr} {m : Str → Option Value}, s1.heap.Ns b m → (hidT s1.heap H).Ns b m := by
      rintro b m ⟨o, es, ep, e, d, r⟩
      exact ⟨o, es, ep, hidT_get e (freeDict e d), d, r⟩
    have inB : K.In (hidT s1.heap H) := by
      intro b o e
      refine hidT_get (KX b o e) ?_
      cases q : H b with
      | none => rfl
      | some u =>
        have e' := atA b (by rw [q]; exact fun z => nomatch z)
        subst e'
        have z := notK (by rw [q]; exact fun z => nomatch z)
        rw [z] at e
        cases e
    have limB : (hidT s1.heap H).NoLimit := by
      obtain ⟨mc, h1, h2⟩ := hlim
      exact ⟨mc, nsIn h1, h2⟩
    have md : Mod K mg (hidT s1.heap H) := ⟨inB, nsIn hns, ⟨mb, nsIn hb, hbb⟩, limB⟩
    have e0 : Env0 P w K mg (hidT s1.heap H) callerA [] s1 H :=
      ⟨rfl, md, fun b o e => of_hidT e, Nat.le_of_eq (hidT_size _ _), trivial, fun b hb => (List.not_mem_nil (show b ∈ ([] : List Addr) from hb)).elim, ok, .of_eq hg⟩
    refine codeAny_mono ((F _ inB (nsIn hns)).go callerA [] s1 H ⟨[.ref a], []⟩ [.ref a] [.ref a] _ _ rfl hr e0 (hbind s1 (.ref a)) (.cons rfl .nil) (hsp H only sq)) ?_
    intro r s' h
    match r, h with
    | .error e, h => exact (hCX H e s' h).elim
    | .ok (.ret u), h =>
      obtain ⟨v, H', os, bare, un, ok', r', q⟩ := h
      cases (show v = .bl true from q)
      cases (show u = Value.bool true from r')
      refine ⟨rfl, OldK.of_keep ?_, os, bare⟩
      intro b o e
      cases q : H b with
      | none => exact un.keep b o e q (fun z => List.not_mem_nil (show b ∈ ([] : List Addr) from z)) (fun z => List.not_mem_nil z)
      | some u =>
        rcases only b with z | ⟨ob, xs, z⟩
        · rw [q] at z
          cases z
        · obtain ⟨e1, _⟩ := ok b _ z
          obtain ⟨e2, _⟩ := ok' b _ (un.frzs b ob _ z)
          rw [e] at e1
          cases e1
          exact e2
  cases hk : K.lookup a with
  | some o =>
    have e := KX a o hk
    rw [ha] at e
    cases e
    refine main (fun _ => none) (fun _ => .inl rfl) ?_ (fun b u z => nomatch (show (none : Option HO) = some u from z)) (fun b z => absurd rfl z) (fun z => absurd rfl z)
    exact .inr ⟨_, vs.toArray, _, hk, rfl, rfl, rfl, by rw [List.size_toArray, lenV]; exact hl, by simpa using rv⟩
  | none =>
    let o0 : Obj := { cls := .type "list", data := .seq vs.toArray }
    refine main (fun b => if b = a then some (.frz o0 (.lst (ns.map V.int))) else none) ?_ ?_ ?_ ?_ (fun _ => hk)
    · intro b
      by_cases hb : b = a
      · exact .inr ⟨_, _, if_pos hb⟩
      · exact .inl (if_neg hb)
    · exact .inl (.inr ⟨o0, if_pos rfl⟩)
    · intro b u z
      by_cases hb : b = a
      · cases (if_pos hb).symm.trans z
        subst hb
        exact ⟨ha, by rw [List.length_map]; exact hl, vs, _, rv, ha⟩
      · cases (if_neg hb).symm.trans z
    · intro b z
      by_cases hb : b = a
      · exact hb
      · exact absurd (if_neg hb) z

/-- a statement, and what is known behind it on all its ways; then the rest, once -/
def tMid (t u : TS) : TS := fun D σ H => ∃ M : L2.St → Hp → Prop, t { D with nx := M } σ H ∧ ∀ τ G, M τ G → u D τ G
theorem pss_mid {X : Cx} {st : Stmt} {more : List Stmt} {t u : TS} (a : PS X st t) (b : PSs X more u) : PSs X (st :: more) (tMid t u) := by
  constructor
  intro pins s σ H D I h
  obtain ⟨M, h1, h2⟩ := h
  refine wpAny_execs_cons (thn (a.run pins s σ H { D with nx := M } I h1) ?_)
  intro fl s1 q
  match fl, q with
  | .next, ⟨τ, G, J, q⟩ => exact b.run pins s1 τ G D J (h2 τ G q)
  | .ret _, q => exact q
  | .brk, q => exact q
  | .cont, q => exact q

/-- the end of a law whose def is such a one -/
theorem walkG {l : PySem.W.OpenLaw} {n k : Nat} {q : Program} {loose : List Str} {XP : (Str → Option Value) → Heap → Prop} {YP : World → Heap → Prop} {d : DefRec} {K : Params → PySem.W.Frag} {CX : World → CXT} {sp : World → Sp} {x : Str}
    (hn : l.most = some n) (hn2 : n ≤ sizeLine) (hdf : d.params.defaults = []) (hr : Room k callerA)
    (hY : ∀ (w : World) (h : Heap), YP w h → (K w.params).In h)
    (F : ∀ (w : World) (mg : Str → Option Value) (fa : Addr) (h : Heap), (K w.params).In h → h.Ns mainGlobals mg → mg d.name = some (.ref fa) →
      ∃ fd : FuncData, (∀ (s : Shared) (u : Value), BindsTo s fd ⟨[u], []⟩ [(x, u)]) ∧
        ∀ base : Heap, (K w.params).In base → base.Ns mainGlobals mg → FnG l.prog w (K w.params) mg base (CX w) k fa fd [x] (sp w))
    (hsp : ∀ (w : World) (H : Hp) (a : Addr) (ns : List Int), ns.length ≤ n → Only H → SqL (K w.params) H a (ns.map V.int) → sp w [.ref a] H (fun v _ => v = .bl true) fun _ _ _ => False)
    (hCX : ∀ (w : World) (H : Hp) (s : Shared) (e : Value) (s' : Shared), CX w [] H s (fun _ _ _ => False) e s' → False) :
    PySem.W.WalkO q loose XP YP l.row.toRowW d [] (fun f vs => PySem.call f vs) := by
  refine Att.attach_call hn hdf ?_
  intro w s₀ s₁ mg mb fa o pm cd doc a vs ns G Y ho hd hcd hmg hobj hints hlen hg
  have KX := hY w _ Y
  obtain ⟨fd, hb, hF⟩ := F w mg fa _ KX G.T.g hmg
  exact law_callG KX G.T.g G.T.b G.T.builtins G.T.nolimit hg hobj hints (Nat.le_trans hlen hn2) hr hF hb (fun H hO hS => hsp w H a ns hlen hO hS) (fun H e s' => hCX w H s₁ e s')

end Wk
set_option Elab.async false
set_option linter.all false
set_option maxRecDepth 100000
set_option maxHeartbeats 4000000
/-! Exceptions of own classes with an own __init__, as values: made with positional and keyword arguments, asked by isinstance, their fields read; repr of data. -/
namespace WkE
open PySem PySem.Spec PyProof.Rows PySem.HandSPX
section
variable {prog : Program} {w : World} {A : Around} {E : Value → Shared → Prop} {R : Result → Shared → Prop} {h : Heap} {g : Array GenState} {d : Drawn} {t : Nat} {os : OsState}
variable {nm q : Str} {C N : Addr} {bs bm bmB : List Value} {hdct : Bool} {sn : List Str} {sub : List Value} {ab : Bool} {col : Option Bool} {dd : Option Addr} {k0 k1 k2 k3 k5 : Option Value} {B newId initId : String}
variable {rest : List Value} {kw : List (Str × Value)} {fI : Addr}

theorem newCheck {Q : Unit → Shared → Prop} (F : ExcBaseFacts B newId initId bmB) (hT : ∀ X : String, bm.contains (.type X) = bmB.contains (.type X))
    (hC : h.get? C = some (excClassObj nm q C N bs bm hdct sn sub ab col dd k0 k1 k2 k3 k5 newId)) (fin : Q () ⟨h, g, d, t, os⟩) :
    wpAny (model prog w) A (checkBuiltinCall newId ⟨.ref C :: rest, kw⟩) Q E ⟨h, g, d, t, os⟩ := by
  have inB : (Value.ref C :: bm).contains (.type B) = true := by
    rw [List.contains_cons, hT, F.hasB]
    exact Bool.or_true _
  have star := F.noStar
  simp only [checkBuiltinCall, F.newKind, F.newSplit, F.newRow]
  repeat (first
    | refine wpAny_loadPart_at hC ?_
    | (refine wpAny_isSubtype_exc hC ?_; rw [inB])
    | refine wpAny_staticBase_exc hC ?_
    | refine wpAny_madeBy_exc hC ?_
    | simp only [bne_self_eq_false, Bool.false_eq_true, if_false]
    | wp_step)
  exact fin

theorem newRun (F : ExcBaseFacts B newId initId bmB) (hT : ∀ X : String, bm.contains (.type X) = bmB.contains (.type X))
    (hC : h.get? C = some (excClassObj nm q C N bs bm hdct sn sub ab col dd k0 k1 k2 k3 k5 newId))
    (fin : R (.ok (.ret (.ref (h.objs.size + 1)))) ⟨(h.push (W.kdv_tup rest)).push (excO C h.objs.size), g, d, t, os⟩) (few : rest.length ≤ sizeLine) :
    codeAny (model prog w) A (.builtin newId ⟨.ref C :: rest, kw⟩) R ⟨h, g, d, t, os⟩ := by
  have ends := F.ends
  have inB : (Value.ref C :: bm).contains (.type B) = true := by
    rw [List.contains_cons, hT, F.hasB]
    exact Bool.or_true _
  have noA : (Value.ref C :: bm).contains (.type "AttributeError") = false := by
    rw [List.contains_cons, hT, F.noAttr]
    rfl
  have noN : (Value.ref C :: bm).contains (.type "NameError") = false := by
    rw [List.contains_cons, hT, F.noName]
    rfl
  refine PySem.codeAny_builtinAt F.entry ?_
  unfold Builtin.«BaseException.__new__»
  refine PySem.wpAt_bind ?_
  show PySem.wpAt _ _ _ (stack >>= _) _ _ _
  refine PySem.wpAt_bind (PySem.wpAt_stack fun p below => PySem.wpAt_of_wpAny ?_)
  wp_walk
  refine PySem.wpAt_of_wpAny ?_
  rw [F.owner]
  repeat (first
    | with_reducible refine wpAny_madeHere_exc F.canon hC ?_
    | with_reducible refine wpAny_loadPart_at hC ?_
    | (with_reducible refine wpAny_isSubtype_exc hC ?_; first | rw [inB] | rw [noA] | rw [noN])
    | wp_step)
  show R _ _
  rw [Heap.size_push]
  exact fin

theorem typeCall {Q : Fin → Shared → Prop} (F : ExcBaseFacts B newId initId bmB) (hT : ∀ X : String, bm.contains (.type X) = bmB.contains (.type X))
    (hC : h.get? C = some (excClassObj nm q C N bs bm hdct sn sub ab col dd k0 k1 k2 k3 k5 newId))
    (hi : W.Looks (model prog w) h (typeLookup (.ref C) "__init__") (some (.ref fI))) (hb : ∀ self, W.Looks (model prog w) h (bindSpecial (.ref fI) self) (.ref fI, [self])) (few : rest.length ≤ sizeLine)
    (fin : codeAny (model prog w) A (.call (.ref fI) ⟨.ref (h.objs.size + 1) :: rest, kw⟩)
      (fun r s' => match r with | .ok (.ret v) => v = .none ∧ Q (.done (.ret (.ref (h.objs.size + 1)))) s' | .ok _ => False | .error e => E e s')
      ⟨(h.push (W.kdv_tup rest)).push (excO C h.objs.size), g, d, t, os⟩) :
    wpAny (model prog w) A (Builtin.«type.__call__» ⟨.ref C :: rest, kw⟩) Q E ⟨h, g, d, t, os⟩ := by
  repeat (first | with_reducible refine wpAny_loadPart_at hC ?_ | with_reducible refine wpAny_madeBy_exc hC ?_ | wp_step)
  refine codeAny_call_builtin_code (Code.quiet_builtin _ F.quiet) (newCheck F hT hC ?_)
  refine newRun F hT hC ?_ few
  show wpAny _ _ _ _ _ _
  have kept : ∀ b o, h.get? b = some o → ((h.push (W.kdv_tup rest)).push (excO C h.objs.size)).get? b = some o := by
    intro b o e
    exact Heap.get?_push_of_some _ (Heap.get?_push_of_some _ e)
  have hC1 := kept _ _ hC
  have atNew : ((h.push (W.kdv_tup rest)).push (excO C h.objs.size)).get? (h.objs.size + 1) = some (excO C h.objs.size) := by heap_get
  have inC : (Value.ref C :: bm).contains (.ref C) = true := by simp
  have i1 := hi.keeps kept
  have b1 := (hb (.ref (h.objs.size + 1))).keeps kept
  unfold isInstance
  repeat (first | with_reducible refine wpAny_loadPart_at atNew ?_ | (with_reducible refine wpAny_isSubtype_exc hC1 ?_; rw [inC]) | wp_step)
  show wpAny _ _ (typeLookup (.ref C) _) _ _ _
  refine i1.at ?_
  refine wpAny_holding (wpAny_bind (b1.at ?_))
  refine wpAny_bind (wpAny_call (codeAny_mono fin fun r s' z => ?_))
  rcases r with e | (v | _ | _ | _) <;> first | exact z | exact z.elim | skip
  obtain ⟨rfl, z⟩ := z
  first
    | exact wpAny_pure (wpAny_pure z)
    | (wp_walk; exact z)

theorem typeCallCheck {Q : Unit → Shared → Prop} (hC : h.get? C = some (excClassObj nm q C N bs bm hdct sn sub ab col dd k0 k1 k2 k3 k5 newId))
    (fin : Q () ⟨h, g, d, t, os⟩) : wpAny (model prog w) A (checkBuiltinCall "type.__call__" ⟨.ref C :: rest, kw⟩) Q E ⟨h, g, d, t, os⟩ := by
  have f3 := tc_sub
  have isT : (⟨h, g, d, t, os⟩ : Shared).TypeIs (.ref C) "type" := ⟨_, hC, rfl⟩
  simp only [checkBuiltinCall, tc_kind, tc_split]
  repeat (any_goals (first | assumption | with_reducible refine wpAny_loadPart_at hC ?_ | with_reducible refine wpAny_onRaise ?_ | with_reducible refine wpAny_map ?_ | wp_step))

/-- C(.., k = v, ..) -/
theorem callNew (F : ExcBaseFacts B newId initId bmB) (hT : ∀ X : String, bm.contains (.type X) = bmB.contains (.type X))
    (hC : h.get? C = some (excClassObj nm q C N bs bm hdct sn sub ab col dd k0 k1 k2 k3 k5 newId))
    (hi : W.Looks (model prog w) h (typeLookup (.ref C) "__init__") (some (.ref fI))) (hb : ∀ self, W.Looks (model prog w) h (bindSpecial (.ref fI) self) (.ref fI, [self])) (few : rest.length ≤ sizeLine)
    (fin : codeAny (model prog w) (A.under (.builtin "type.__call__" ⟨.ref C :: rest, kw⟩)) (.call (.ref fI) ⟨.ref (h.objs.size + 1) :: rest, kw⟩) (W.InitBack (h.objs.size + 1) R)
      ⟨(h.push (W.kdv_tup rest)).push (excO C h.objs.size), g, d, t, os⟩) :
    codeAny (model prog w) A (.call (.ref C) ⟨rest, kw⟩) R ⟨h, g, d, t, os⟩ := by
  have f1 := tc_lookup
  have f2 := tc_bind (.ref C)
  have isT : (⟨h, g, d, t, os⟩ : Shared).TypeIs (.ref C) "type" := ⟨_, hC, rfl⟩
  refine codeAny_of_tree ?_
  show wpAny _ _ (callAny (.ref C) _) _ _ _
  repeat (any_goals (first | assumption | with_reducible refine wpAny_loadPart_at hC ?_ | wp_step))
  refine ⟨rfl, ?_⟩
  refine codeAny_call_builtin_at (Code.quiet_builtin _ (by decide +kernel)) entry_typeCall (typeCallCheck hC (typeCall F hT hC hi hb few ?_))
  refine codeAny_mono fin fun r s' z => ?_
  rcases r with e | (v | _ | _ | _) <;> exact z
end
end WkE

namespace Wk
open PySem PySem.Spec PyProof.Rows L2
/-- C(.., k = v, ..) of an exception class with its own __init__, as a value: n positional values, m keywords; H3 holds the exception and its dict -/
def tMkV (C : Addr) (n m : Nat) (sp : Sp) (gV : List V → List V → List V) (t tk : TA) : TE := fun σ H Q => t σ H fun vs H1 => tk σ H1 fun zs H2 => vs.length = n ∧ zs.length = m ∧
  ∀ a, H2 a = none → sp (gV (.ref a :: vs) zs) (upd H2 a (exo a C none)) (fun v H3 => v = .non ∧ Q (.ref a) H3) fun _ _ _ => False
section
variable {X : Cx} {CX : CXT} {k n : Nat} {fI C : Addr} {fd : FuncData} {ps ks : List Str} {sp : Sp} {x : Str} {p pos : Pos} {e : Expr} {es : List Expr} {kws : List Keyword} {t tk : TA}
variable {g : List Value → List Value → List Value} {gV : List V → List V → List V}
theorem runMkV {pins : List (Addr × Obj)} {σ : L2.St} {H : Hp} {s : Shared} {Q : VK} {us ws : List Value} {vs zs : List V} (T : OexC X.K C)
    (iC : PySem.W.findIn X.K (.ref C) "__init__" = some (some (.ref fI))) (tI : PySem.W.typeIn X.K (.ref fI) = some (.type "function"))
    (F : FnOk X.prog X.w X.K X.mg X.base CX k fI fd ps sp) (hr : Room (k + 1) X.A) (hb : KBn X.K fd ps (n + 1) ks g gV) (hx : Passes CX X fun _ _ _ => False)
    (I : Inv X pins σ H s) (r : Vals vs us) (rz : Vals zs ws) (l1 : vs.length = n) (l2 : zs.length = ks.length) (hn : n ≤ 1000)
    (want : ∀ a, H a = none → sp (gV (.ref a :: vs) zs) (upd H a (exo a C none)) (fun v H3 => v = .non ∧ Q (.ref a) H3) fun _ _ _ => False) :
    wpAny (model X.prog X.w) X.A (call (.ref C) us (ks.zip ws)) (EP X pins σ Q) X.xe s := by
  obtain ⟨nm, q, N, bs, bm, sn, sub, ab, col, dd, k0, k1, k2, k3, k5, hC, hbm⟩ := T.cls
  obtain ⟨hp, gs, dr, tok, os⟩ := s
  have le : hp.objs.size ≤ hp.objs.size + 1 := Nat.le_succ _
  have free : H (hp.objs.size + 1) = none := I.hok.fresh le
  have hq := want (hp.objs.size + 1) free
  have kept : ∀ b o, hp.get? b = some o → ((hp.push (PySem.W.kdv_tup us)).push (PySem.HandSPX.excO C hp.objs.size)).get? b = some o :=
    fun b o e => Heap.get?_push_of_some _ (Heap.get?_push_of_some _ e)
  have atNew : ((hp.push (PySem.W.kdv_tup us)).push (PySem.HandSPX.excO C hp.objs.size)).get? (hp.objs.size + 1) = some (PySem.HandSPX.excO C hp.objs.size) := by heap_get
  have I2 : Inv X pins σ (upd H (hp.objs.size + 1) (exo (hp.objs.size + 1) C none)) ⟨(hp.push (PySem.W.kdv_tup us)).push (PySem.HandSPX.excO C hp.objs.size), gs, dr, tok, os⟩ :=
    I.laid (t' := tok) kept le (exo_ok atNew)
  have r1 : Vals (V.ref (hp.objs.size + 1) :: vs) (Value.ref (hp.objs.size + 1) :: us) := .cons rfl r
  have r2 := hb.rel r1 rz
  have n1 : (Value.ref (hp.objs.size + 1) :: us).length = n + 1 := by
    rw [List.length_cons, ← r.length, l1]
  have few : us.length ≤ sizeLine := by
    rw [← r.length, l1, sizeLine_eq]
    omega
  refine wpAny_call (WkE.callNew PySem.F.excBase_ValueError (fun Y => PySem.HandSPX.refsVE_contains Y bm hbm) (I.kIn _ _ hC) (PySem.W.looks_findIn I.kIn iC) (fun self => PySem.W.bind_fn I.kIn self tI) few ?_)
  refine codeAny_mono (F.run _ X.stack _ _ ⟨Value.ref (hp.objs.size + 1) :: us, ks.zip ws⟩ (g (Value.ref (hp.objs.size + 1) :: us) ws) _ _ (fun _ _ _ => False)
    (hr.make C us (ks.zip ws)) (I2.env0.make C us (ks.zip ws)) (hb.to _ (Value.ref (hp.objs.size + 1) :: us) ws I2.kIn n1 (rz.length.symm.trans l2)) r2 hq) ?_
  intro r s' hq'
  match r, hq' with
  | .error er, hq' => exact hx pins σ _ _ er s' I2 hq'
  | .ok (.ret u), hq' =>
    obtain ⟨v, H3, I3, rv, ev, q3⟩ := I2.after hq'
    subst ev
    exact ⟨rv, V.ref (hp.objs.size + 1), H3, I3, rfl, q3⟩
/-- C(e, ..) -/
theorem pe_mkV (T : OexC X.K C) (iC : PySem.W.findIn X.K (.ref C) "__init__" = some (some (.ref fI))) (tI : PySem.W.typeIn X.K (.ref fI) = some (.type "function"))
    (F : FnOk X.prog X.w X.K X.mg X.base CX k fI fd ps sp) (hr : Room (k + 1) X.A) (hb : KBn X.K fd ps (n + 1) [] g gV) (hx : Passes CX X fun _ _ _ => False) (hn : n ≤ 1000)
    (hg : Gl X x) (hm : X.mg x = some (.ref C)) (ha : PA X (e :: es) t) (hdb : (x == ("__debug__" : Str)) = false := by decide)
    (he : starEach (e :: es) X.env = (false, eval e X.env) :: starEach es X.env := by rfl) (hpl : (backTo pos (starEach es X.env)).any (·.1) = false := by rfl) :
    PE X (.Call (.Name x p) (e :: es) [] pos) (tMkV C n 0 sp gV t tNil) := by
  constructor
  intro pins s σ H Q I h
  refine wpAny_Call_Name_kw (ld_glob I hg hm ?_ hdb)
  refine PySem.W.callWith_K (h₀ := X.base) I.ok.mod.kin T.kC (thn (ha.run pos pins s σ H _ I h) ?_) he hpl
  rintro us s1 ⟨vs, H1, I1, r, l1, l2, q⟩
  exact ⟨I1.kIn, runMkV (ks := []) (ws := []) (zs := []) T iC tI F hr hb hx I1 r .nil l1 rfl hn q⟩
/-- C(k = v, ..) -/
theorem pe_mkVK (T : OexC X.K C) (iC : PySem.W.findIn X.K (.ref C) "__init__" = some (some (.ref fI))) (tI : PySem.W.typeIn X.K (.ref fI) = some (.type "function"))
    (F : FnOk X.prog X.w X.K X.mg X.base CX k fI fd ps sp) (hr : Room (k + 1) X.A) (hb : KBn X.K fd ps 1 ks g gV) (hx : Passes CX X fun _ _ _ => False)
    (hg : Gl X x) (hm : X.mg x = some (.ref C)) (hkw : PK X kws tk) (hall : (backToKw pos (keywordEach kws X.env)).all (·.1.isSome) = true := by rfl)
    (hks : (backToKw pos (keywordEach kws X.env)).filterMap (·.1) = ks := by rfl) (hdb : (x == ("__debug__" : Str)) = false := by decide)
    (hpl : ((backTo pos (starEach [] X.env)).any (·.1) || (backToKw pos (keywordEach kws X.env)).any (·.1.isNone)) = false := by rfl) :
    PE X (.Call (.Name x p) [] kws pos) (tMkV C 0 ks.length sp gV tNil tk) := by
  constructor
  intro pins s σ H Q I h
  refine wpAny_Call_Name_kw (ld_glob I hg hm ?_ hdb)
  refine PySem.W.callWith_KW0 (h₀ := X.base) I.ok.mod.kin T.kC hall (thn (hkw.run pos pins s σ H _ I h) ?_) hpl
  rintro ws s2 ⟨zs, H2, I2, rz, l1, l2, q2⟩
  refine ⟨I2.kIn, ?_⟩
  rw [hks]
  exact runMkV (us := []) (vs := []) T iC tI F hr hb hx I2 .nil rz rfl l2 (Nat.zero_le _) q2
end

/-! ### isinstance of such a value -/
/-- what the class at D says, so that isinstance asks its instances rightly -/
structure IsC (K : PySem.W.Frag) (D : Addr) : Prop where
  cl : (PySem.W.clsIn K D).isSome = true
  ga : PySem.W.findIn K (.ref D) "__getattribute__" = some (some (.builtin "BaseException.__getattribute__"))
  gt : PySem.W.findIn K (.ref D) "__getattr__" = some none
  sub : PySem.W.subIn K (.ref D) (.type "BaseException") = some true
  cls : PySem.W.findIn K (.ref D) "__class__" = some (some (.builtin "object.__class__"))
  get : PySem.W.specialIn K (.builtin "object.__class__") "__get__" = some (some (.builtin "getset_descriptor.__get__"))
  tak : PySem.W.takesIn K (.builtin "object.__class__") = some true
  mro : PySem.W.mroIn K D (.type "object") = some true
/-- isinstance(x, c), x an exception with its dict -/
def rIsX (K : PySem.W.Frag) : List V → Hp → VK → Prop := fun xs H Q => ∃ (a C dx : Addr) (fs : List (Str × V)) (c : V) (u : Value) (b : Bool),
  xs = [.ref a, c] ∧ H a = some (exo a C (some dx)) ∧ H dx = some (exd dx fs) ∧ IsC K C ∧ ClsV c u ∧ PySem.W.kitOne K (.ref C) u = some b ∧ Q (.bl b) H
section
variable {X : Cx}
theorem call_isX : CallR X (.builtin "isinstance") (rIsX X.K) := by
  intro pins s σ H xs us Q I r h
  obtain ⟨a, C, dx, fs, c, u, b, rfl, ea, ed, T, kc, e, q⟩ := h
  obtain ⟨u1, u2, rfl, r1, r2⟩ := vals2 r
  cases kc.eq r2
  cases (show u1 = Value.ref a from r1)
  obtain ⟨t1, ho⟩ := exo_at I.hok ea
  obtain ⟨mA, hns, rel⟩ := exd_at I.hok ed
  obtain ⟨od, hod, _⟩ := lookIn_ns hns
  have J : PySem.W.InstAt s.heap a { cls := .ref C, dict := some dx, data := .fields #[.ref t1, .none, .none, .none, .bool false, .none] } C (some od) := ⟨ho, rfl, rfl, hod⟩
  exact PySem.W.kia_one (PySem.W.kitx_exc T.cl T.ga T.gt T.sub T.cls T.get T.tak T.mro) I.kIn J e (fun z => nomatch z) fun tk => ⟨.bl b, H, I.tok tk, rfl, q⟩
/-- isinstance(x, (c1, ..)), x an exception without a dict -/
def rIsXT (K : PySem.W.Frag) : List V → Hp → VK → Prop := fun xs H Q => ∃ (a C tp : Addr) (cs : List V) (us : List Value) (b : Bool),
  xs = [.ref a, .ref tp] ∧ H a = some (ExO (.ref C) a) ∧ H tp = some (.tup cs) ∧ IsC K C ∧ Paired ClsV cs us ∧ PySem.W.kitAny K (.ref C) us = some b ∧ Q (.bl b) H
theorem call_isXT : CallR X (.builtin "isinstance") (rIsXT X.K) := by
  intro pins s σ H xs us Q I r h
  obtain ⟨a, C, tp, cs, ws, b, rfl, ea, hT, T, kc, e, q⟩ := h
  obtain ⟨u1, u2, rfl, r1, r2⟩ := vals2 r
  cases (show u1 = Value.ref a from r1)
  cases (show u2 = Value.ref tp from r2)
  obtain ⟨⟨oe, vs, ho, hz, hd, _⟩, _, _⟩ := I.hok a _ ea
  obtain ⟨_, its, rv, o, h1, h2, n, h3⟩ := (show ObjOk X.prog X.w H s.heap tp (.tup cs) from I.hok tp _ hT)
  cases ClsV.all kc rv
  obtain ⟨oc, od, dt, sl⟩ := o
  simp only at h2 h3
  subst h2 h3
  have J : PySem.W.InstAt s.heap a oe C none := ⟨ho, hz.1, by unfold PySem.W.notCls; rw [hd] <;> rfl, by rw [hz.2]; exact trivial⟩
  exact PySem.W.kia_tup (PySem.W.kitx_exc T.cl T.ga T.gt T.sub T.cls T.get T.tak T.mro) I.kIn J h1 e (fun z => nomatch z) fun tk => ⟨.bl b, H, I.tok tk, rfl, q⟩
end

/-! ### a field of such a value -/
def tXv (K : PySem.W.Frag) (f : Str) (te : TE) : TE := fun σ H Q => te σ H fun x H1 => ∃ (a C dx : Addr) (fs : List (Str × V)) (v : V), x = .ref a ∧ XfC K C ∧ PySem.W.findIn K (.ref C) f = some none ∧
  H1 a = some (exo a C (some dx)) ∧ H1 dx = some (exd dx fs) ∧ fs.lookup f = some v ∧ Q v H1
theorem pe_xv {X : Cx} {e : Expr} {te : TE} {pos : Pos} {f : Str} (he : PE X e te) (hb : attributeBase e f X.env (eval e X.env) = eval e X.env := by rfl) : PE X (.Attribute e f pos) (tXv X.K f te) := by
  constructor
  intro pins s σ H Q I h
  refine attr_of hb (thn (he.run pins s σ H _ I h) ?_)
  rintro u s1 ⟨x, H1, I1, rx, a, C, dx, fs, v, rfl, T, no, ea, ed, l, q⟩
  cases (show u = Value.ref a from rx)
  obtain ⟨t1, ho⟩ := exo_at I1.hok ea
  obtain ⟨mA, hns, rel⟩ := exd_at I1.hok ed
  obtain ⟨od, hod, hl⟩ := lookIn_ns hns
  obtain ⟨u, hu, ru⟩ := RelO.some_of (v := v) (o := mA f) (by rw [← l]; exact rel f)
  have J : PySem.W.InstAt s1.heap a { cls := .ref C, dict := some dx, data := .fields #[.ref t1, .none, .none, .none, .bool false, .none] } C (some od) := ⟨ho, rfl, rfl, hod⟩
  exact HandSPX.exc_get I1.kIn J T.ga T.gg T.exC (PySem.W.findObj_own T.hdC no rfl (by rw [hl, hu])) (handed_of ru) ⟨v, H1, I1.tok _, ru, q⟩

/-! ### C(), an exception class without an own __init__ -/
theorem pe_exc0 {X : Cx} {C : Addr} {bmB : List Value} {B newId initId : String} {x : Str} {p pos : Pos} (F : ExcBaseFacts B newId initId bmB) (q : PySem.W.excIn X.K C bmB newId = true) (gC : X.mg x = some (.ref C))
    (kC : PySem.W.keepIn X.K (.ref C) = true) (hg : Gl X x) (hdb : (x == ("__debug__" : Str)) = false := by decide) :
    PE X (.Call (.Name x p) [] [] pos) (fun σ H Q => ∀ a, H a = none → Q (.ref a) (upd H a (ExO (.ref C) a))) := by
  constructor
  intro pins s σ H Q I h
  refine wpAny_Call_Name_kw (ld_glob I hg gC ?_ hdb)
  refine PySem.W.callWith_K0 I.kIn kC ?_
  obtain ⟨bm, N, nm, qn, bs, hdct, sn, sub, ab, col, dd, k0, k1, k2, k3, k5, mN, hC, hN, hni, T⟩ := exc_obj I.kIn q
  refine wpAny_call_exc_subT F T hC hN hni (fun h' a hm => ?_) (by show 0 ≤ sizeLine; exact Nat.zero_le _)
  have free : H a = none := I.hok.gone hm.new
  obtain ⟨t, ht, _, _⟩ := hm.there
  exact ⟨.ref a, upd H a (ExO (.ref C) a), I.laidN hm.keeps hm.new free (exO_ok ht ⟨rfl, rfl⟩ rfl rfl rfl (show 4 < 6 by decide)), rfl, h a free⟩

/-! ### repr of data -/
/-- repr(x), x data: its text. No repr is under way -/
def rRepr (K : PySem.W.Frag) : List V → Hp → VK → Prop := fun xs H Q => ∃ (x : V) (d : PyData), xs = [x] ∧ Dp K H x d ∧ d.showable = true ∧ d.hasDict = false ∧ d.depth ≤ 60 ∧ (d.shown.length ≤ sizeLine ∨ ∃ i, d = .int i) ∧ Q (.str d.shown) H
theorem call_repr {X : Cx} (gd : X.A.guards = some []) (hu : X.A.units + 64 < cLine) : CallR X (.builtin "repr") (rRepr X.K) := by
  intro pins s σ H xs us Q I r h
  obtain ⟨x, d, rfl, dp, sh, nd, dep, sz, q⟩ := h
  obtain ⟨u, rfl, rx⟩ := vals1 r
  obtain ⟨as, rd⟩ := Dp.reads I d x u dp rx
  cases dp with
  | non =>
    cases rx
    exact PySem.P.repr_of_none ⟨.str _, H, I.tok _, ⟨_, rfl⟩, q⟩
  | bl b =>
    cases rx
    exact PySem.P.repr_of_bool ⟨.str _, H, I.tok _, ⟨_, rfl⟩, q⟩
  | int i =>
    obtain ⟨t, rfl⟩ := rx
    exact PySem.P.repr_of_int (by simpa [PyData.showable] using sh) ⟨.str _, H, I.tok _, ⟨_, rfl⟩, q⟩
  | str z =>
    obtain ⟨t, rfl⟩ := rx
    exact PySem.P.repr_of_str ⟨.str _, H, I.tok _, ⟨_, rfl⟩, q⟩ (sz.elim id fun ⟨_, e⟩ => nomatch e)
  | lst _ _ =>
    cases rx
    exact repr_of_reads' rd sh (PyData.noDict_hsm nd) gd (by omega) (fun _ _ e => e) (fun h' u tk hk => ⟨.str _, H, I.kept hk, ⟨_, rfl⟩, q⟩) (sz.elim id fun ⟨_, e⟩ => nomatch e)
  | tup _ _ =>
    cases rx
    exact repr_of_reads' rd sh (PyData.noDict_hsm nd) gd (by omega) (fun _ _ e => e) (fun h' u tk hk => ⟨.str _, H, I.kept hk, ⟨_, rfl⟩, q⟩) (sz.elim id fun ⟨_, e⟩ => nomatch e)
end Wk
set_option Elab.async false
set_option linter.all false
set_option maxRecDepth 100000
set_option maxHeartbeats 4000000
namespace K01
open PySem L2 Wk
/-! ### the text by places -/
def top (i : Nat) : Stmt := PySem.Challenge.pw_wordorder_k01_errors_and_their_values.main.body.getD i (.Pass ⟨0, 0, 0, 0⟩)
abbrev sBag : Stmt := top 9
abbrev sDraw : Stmt := top 10
abbrev sMade : Stmt := top 11
abbrev sFlags : Stmt := top 12
abbrev sLaw : Stmt := top 13

/-! ### the bag of draws: a dict with the list of the great cells -/
def bagD (G : Addr) (l t b : Int) : List (Key × V) := [(.inr "great", .ref G), (.inr "left", .int l), (.inr "turn", .int t), (.inr "blend", .int b)]
theorem n1 : ¬ ("great" : Str) = "left" := by decide +kernel
theorem n2 : ¬ ("great" : Str) = "turn" := by decide +kernel
theorem n3 : ¬ ("great" : Str) = "blend" := by decide +kernel
theorem n4 : ¬ ("left" : Str) = "turn" := by decide +kernel
theorem n5 : ¬ ("left" : Str) = "blend" := by decide +kernel
theorem n6 : ¬ ("turn" : Str) = "blend" := by decide +kernel
theorem inrNe {a b : Str} (h : ¬ a = b) : ¬ (Sum.inr a : Key) = Sum.inr b := fun z => h (Sum.inr.inj z)
section
variable {G : Addr} {l t b x : Int}
theorem getGreat : valV (bagD G l t b) (.inr "great" : Key) = some (.ref G) := valV_pos rfl
theorem getLeft : valV (bagD G l t b) (.inr "left" : Key) = some (.int l) := (valV_neg (inrNe n1)).trans (valV_pos rfl)
theorem getTurn : valV (bagD G l t b) (.inr "turn" : Key) = some (.int t) := (valV_neg (inrNe n2)).trans ((valV_neg (inrNe n4)).trans (valV_pos rfl))
theorem getBlend : valV (bagD G l t b) (.inr "blend" : Key) = some (.int b) := (valV_neg (inrNe n3)).trans ((valV_neg (inrNe n5)).trans ((valV_neg (inrNe n6)).trans (valV_pos rfl)))
theorem putLeft : putK (bagD G l t b) (.inr "left" : Key) (.int x) = bagD G x t b := by
  unfold putK
  rw [if_pos (by rw [valV_any, getLeft]; rfl)]
  simp only [bagD, List.map_cons, List.map_nil, Sum.inr.injEq, n1, n4, n5, fun h => n4 (Eq.symm h), if_true, if_false, reduceIte]
  rw [if_neg (fun h => n4 (Eq.symm h)), if_neg (fun h => n5 (Eq.symm h))]
theorem putTurn : putK (bagD G l t b) (.inr "turn" : Key) (.int x) = bagD G l x b := by
  unfold putK
  rw [if_pos (by rw [valV_any, getTurn]; rfl)]
  simp only [bagD, List.map_cons, List.map_nil, Sum.inr.injEq, n2, n4, reduceIte]
  rw [if_neg (fun h => n6 (Eq.symm h))]
end
theorem merged {G : Addr} {l t b : Int} : mergeK [] (bagD G l t b) = bagD G l t b := by
  unfold mergeK bagD
  simp only [List.foldl_cons, List.foldl_nil]
  unfold putK
  simp [n1, n2, n3, n4, n5, n6]
abbrev P61 : Int := 2305843009213693951
/-- a bag stands at p: its great cells gs (not negative), what is left of the last one, the turn, the blend -/
structure BagAt (H : Hp) (p G : Addr) (gs : List Int) (l t b : Int) : Prop where
  dict : H p = some (.dK (bagD G l t b))
  list : H G = some (.lst (gs.map V.int))
  gnn : ∀ g ∈ gs, 0 ≤ g
  lnn : 0 ≤ l
  tnn : 0 ≤ t
  bnn : 0 ≤ b
  blt : b < P61
  few : gs.length ≤ 63
theorem BagAt.ne {H : Hp} {p G : Addr} {gs : List Int} {l t b : Int} (B : BagAt H p G gs l t b) : p ≠ G := ne_of B.dict B.list (by intro z; cases z)
/-- .. still stands where both objects stand -/
theorem BagAt.same {H H' : Hp} {p G : Addr} {gs : List Int} {l t b : Int} (B : BagAt H p G gs l t b) (e1 : H' p = H p) (e2 : H' G = H G) : BagAt H' p G gs l t b :=
  ⟨e1.trans B.dict, e2.trans B.list, B.gnn, B.lnn, B.tnn, B.bnn, B.blt, B.few⟩

/-! ### the promises -/
def spBag (K : PySem.W.Frag) : Sp := fun vs H Q _ => ∃ (a : Addr) (ns : List Int), vs = [.ref a] ∧ SqL K H a (ns.map V.int) ∧ ns.length ≤ 63 ∧
  ∀ (p G : Addr) (gs : List Int) (b : Int) (H' : Hp), H p = none → H G = none → BagAt H' p G gs 0 0 b → Same H H' → Q (.ref p) H'
/-- a draw: a number from 0 on below many; the bag alone changes, its turn by at most one -/
def spDraw : Sp := fun vs H Q _ => ∃ (p G : Addr) (gs : List Int) (l t b many : Int), vs = [.ref p, .int many] ∧ BagAt H p G gs l t b ∧ 0 < many ∧ many.natAbs < 2 ^ 64 ∧ t < 2 ^ 50 ∧
  ∀ (r : Int) (gs' : List Int) (l' t' : Int) (H' : Hp), 0 ≤ r → r < many → t' ≤ t + 1 → BagAt H' p G gs' l' t' b → (∀ c o, H c = some o → c ≠ p → c ≠ G → H' c = some o) → Q (.int r) H'
structure TxtB (K : PySem.W.Frag) (mg : Str → Option Value) : Prop where
  abs : mg "abs" = none
  len : mg "len" = none
section
variable {P : Program} {w : World} {K : PySem.W.Frag} {mg : Str → Option Value} {base : Heap}
theorem scBag : FnScope ["script", "blend", "great", "cell"] ["script"] (defScope sBag) := ⟨rfl, rfl, rfl, by decide +kernel, rfl, by decide +kernel, by decide +kernel⟩
theorem getInt {ns : List Int} {i : Nat} {y : V} (hi : (ns.map V.int)[i]? = some y) : ∃ z, ns[i]? = some z ∧ y = V.int z := by
  rw [List.getElem?_map] at hi
  cases e : ns[i]? with
  | none =>
    rw [e] at hi
    cases hi
  | some z =>
    rw [e] at hi
    exact ⟨z, rfl, (Option.some.inj hi).symm⟩
theorem ok_bag {f : Addr} {fd : FuncData} (F : Fun K "_law_bag" "_law_bag" sBag f fd) (T : TxtB K mg) : FnOk P w K mg base CX0 1 f fd ["script"] (spBag K) := by
  refine F.ok scBag (fun vs H Q E h => ?_) (fun cdv A outer s H vs Q E hr h => ?_)
  · obtain ⟨a, ns, rfl, _⟩ := h
    rfl
  · obtain ⟨a, ns, rfl, hS, hlen, k⟩ := h
    refine ⟨_, pss_cons (ps_par (i := 1) (j := 2) (by rfl) scBag.nd rfl rfl (by decide) rfl rfl (pa_cons pe_int (pa_cons (pe_lst pa_nil) pa_nil)) (by rfl))
      (pss_cons (ps_for PassesOwn.never rfl (pi_list (pv 0)) (pg_name (i := 3) scBag.nd rfl (.inl rfl))
        (pss_cons (ps_set (i := 1) scBag.nd rfl (.inl rfl) (pe_op op_mod (pe_op op_add (pe_op op_mul (pv 1) pe_int) (pv 3)) pe_int))
        (pss_one (ps_if (pt_cmpR op_ge (pe_callB call_abs (by rfl) T.abs (by decide +kernel) (pa_cons (pv 3) pa_nil)) (pe_op op_pow pe_int pe_int) (nomark _))
          (pss_one (ps_expr (pe_bm PySem.F.plainAttrs_list PySem.F.slot_list_append PySem.F.type_list_append mt_append (pv 2)
            (pa_cons (pe_callB call_abs (by rfl) T.abs (by decide +kernel) (pa_cons (pv 3) pa_nil)) pa_nil)))) pss_nil))))
      (pss_one (ps_ret (pe_disp (pps_cons pe_str (pv 2) (pps_cons pe_str pe_int (pps_cons pe_str pe_int (pps_cons pe_str (pv 1) pps_nil)))) (by rfl) (by rfl) (fun z => by cases z) (by decide))))), ?_⟩
    refine ⟨by decide, fun G nG => ⟨_, _, rfl, ?_⟩⟩
    have s0 : Same H (upd H G (.lst [])) := fun b o e => by
      rw [upd_ne (ne_of_none e nG)]
      exact e
    refine ⟨_, rfl, a, rfl, ⟨_, s0.seq hS⟩, for_list (K := K) (a := a) (xs := ns.map V.int)
      (fun i σ H2 => ∃ (b : Int) (gs : List Int) (c : Option V), σ = [some (.ref a), some (.int b), some (.ref G), c] ∧ H2 = upd H G (.lst (gs.map V.int)) ∧ 0 ≤ b ∧ b < P61 ∧ gs.length ≤ i ∧ ∀ g ∈ gs, 0 ≤ g)
      ⟨11, [], none, rfl, rfl, by decide, by decide, Nat.le_refl _, fun g hg => nomatch hg⟩ ?_ ?_ ?_⟩
    · rintro i σ H2 _ ⟨b, gs, c, rfl, rfl, _⟩
      refine Same.seq (H := H) (fun x o e => ?_) hS
      rw [upd_ne (ne_of_none e nG)]
      exact e
    · rintro i y σ H2 hi ⟨b, gs, c, rfl, rfl, b0, b1, hl, hg⟩
      obtain ⟨z, hz, rfl⟩ := getInt hi
      have b2 : b < 2305843009213693951 := b1
      refine ⟨_, rfl, _, _, rfl, rfl, .inl ⟨by omega, by omega⟩, _, rfl, _, _, rfl, rfl, _, _, rfl, rfl, (by show (0 : Int) < P61; decide), ?_⟩
      have m0 : 0 ≤ (b * 1000003 + z) % P61 := Int.emod_nonneg _ (by decide)
      have m1 : (b * 1000003 + z) % P61 < P61 := Int.emod_lt_of_pos _ (by decide)
      refine ⟨_, rfl, _, rfl, _, _, rfl, rfl, ⟨by decide, by decide, by decide⟩, _, _, rfl, rfl, _, rfl, ?_⟩
      refine ite2 (fun _ => ?_) (fun _ => ?_)
      · refine ⟨_, rfl, .inl ⟨rfl, _, SqL.of upd_same⟩, _, rfl, _, rfl, G, _, _, rfl, rfl, upd_same, ?_, ?_⟩
        · rw [List.length_map]
          exact small1000 (by have := (List.getElem?_eq_some_iff.mp hz).1; omega)
        · refine ⟨_, gs ++ [if z < 0 then -z else z], _, rfl, ?_, m0, m1, ?_, ?_⟩
          · rw [upd_upd, List.map_append]
            rfl
          · rw [List.length_append]
            exact Nat.succ_le_succ hl
          · intro g h
            rcases List.mem_append.mp h with h | h
            · exact hg g h
            · rw [List.mem_singleton.mp h]
              split <;> omega
      · exact ⟨_, gs, _, rfl, rfl, m0, m1, Nat.le_succ_of_le hl, hg⟩
    · rintro σ H2 ⟨b, gs, c, rfl, rfl, b0, b1, hl, hg⟩
      rw [List.length_map] at hl
      intro p np
      have pG : p ≠ G := fun z => by
        rw [z, upd_same] at np
        cases np
      refine ⟨_, rfl, _, rfl, upd_same, bagD G 0 0 b, rfl, by show 4 ≤ 15; decide, ?_⟩
      rw [merged]
      refine k p G gs b _ ?_ nG ⟨upd_same, by rw [upd_ne pG.symm, upd_ne pG.symm, upd_same], hg, by decide, by decide, b0, b1, Nat.le_trans hl hlen⟩ ?_
      · rw [upd_ne pG] at np
        exact np
      · intro x o e
        have x1 : x ≠ G := ne_of_none e nG
        have x2 : x ≠ p := fun z => by
          rw [z] at e
          rw [upd_ne pG, e] at np
          cases np
        rw [upd_ne x2, upd_ne x2, upd_ne x1]
        exact e
end
end K01
set_option Elab.async false
set_option linter.all false
set_option maxRecDepth 100000
set_option maxHeartbeats 4000000
namespace K01
open PySem L2 Wk
section
variable {H : Hp} {p G : Addr} {gs : List Int} {l t b x : Int}
theorem BagAt.gGreat (B : BagAt H p G gs l t b) : DGet H p (.str "great") (some (.ref G)) := by
  have z := DGet.k (k := (Sum.inr "great" : Key)) B.dict
  rw [getGreat] at z
  exact z
theorem BagAt.gLeft (B : BagAt H p G gs l t b) : DGet H p (.str "left") (some (.int l)) := by
  have z := DGet.k (k := (Sum.inr "left" : Key)) B.dict
  rw [getLeft] at z
  exact z
theorem BagAt.gTurn (B : BagAt H p G gs l t b) : DGet H p (.str "turn") (some (.int t)) := by
  have z := DGet.k (k := (Sum.inr "turn" : Key)) B.dict
  rw [getTurn] at z
  exact z
theorem BagAt.gBlend (B : BagAt H p G gs l t b) : DGet H p (.str "blend") (some (.int b)) := by
  have z := DGet.k (k := (Sum.inr "blend" : Key)) B.dict
  rw [getBlend] at z
  exact z
theorem BagAt.pLeft (B : BagAt H p G gs l t b) : DPut H p (.str "left") (.int x) (upd H p (.dK (bagD G x t b))) := by
  have z := DPut.k (k := (Sum.inr "left" : Key)) (v := .int x) B.dict (small1000 (by show 4 ≤ 1000; decide))
  rw [putLeft] at z
  exact z
theorem BagAt.pTurn (B : BagAt H p G gs l t b) : DPut H p (.str "turn") (.int x) (upd H p (.dK (bagD G l x b))) := by
  have z := DPut.k (k := (Sum.inr "turn" : Key)) (v := .int x) B.dict (small1000 (by show 4 ≤ 1000; decide))
  rw [putTurn] at z
  exact z
theorem BagAt.setLeft (B : BagAt H p G gs l t b) (h : 0 ≤ x) : BagAt (upd H p (.dK (bagD G x t b))) p G gs x t b :=
  ⟨upd_same, by rw [upd_ne B.ne.symm]; exact B.list, B.gnn, h, B.tnn, B.bnn, B.blt, B.few⟩
theorem BagAt.setTurn (B : BagAt H p G gs l t b) (h : 0 ≤ x) : BagAt (upd H p (.dK (bagD G l x b))) p G gs l x b :=
  ⟨upd_same, by rw [upd_ne B.ne.symm]; exact B.list, B.gnn, B.lnn, h, B.bnn, B.blt, B.few⟩
theorem BagAt.popped {g : Int} (B : BagAt H p G (g :: gs) l t b) : BagAt (upd H G (.lst (gs.map V.int))) p G gs l t b :=
  ⟨by rw [upd_ne B.ne]; exact B.dict, upd_same, fun y hy => B.gnn y (List.mem_cons_of_mem _ hy), B.lnn, B.tnn, B.bnn, B.blt, Nat.le_trans (Nat.le_succ _) B.few⟩
end
section
variable {P : Program} {w : World} {K : PySem.W.Frag} {mg : Str → Option Value} {base : Heap}
theorem scDraw : FnScope ["bag", "many", "drawn", "turn", "mixed"] ["bag", "many"] (defScope sDraw) := ⟨rfl, rfl, rfl, by decide +kernel, rfl, by decide +kernel, by decide +kernel⟩
theorem ok_draw {f : Addr} {fd : FuncData} (F : Fun K "_law_draw" "_law_draw" sDraw f fd) (T : TxtB K mg) : FnOk P w K mg base CX0 1 f fd ["bag", "many"] spDraw := by
  refine F.ok scDraw (fun vs H Q E h => ?_) (fun cdv A outer s H vs Q E hr h => ?_)
  · obtain ⟨p, G, gs, l, t, b, many, rfl, _⟩ := h
    rfl
  · obtain ⟨p, G, gs, l, t, b, many, rfl, B, m0, m64, t50, k⟩ := h
    have hu := hu_of hr
    have md : many.natAbs < 2 ^ 64 := m64
    refine ⟨_, pss_mid (ps_if (PW.pt (pw_and (pt_cmpR op_lt (pe_dget hu (pv 0) pe_str (fun _ _ => rfl)) (pv 1) (nomark _))
        (pw_and1 (pt_cmpR op_gt (pe_callB call_len_seq (by rfl) T.len PySem.boot_len (pa_cons (pe_dget hu (pv 0) pe_str (fun _ _ => rfl)) pa_nil)) pe_int (nomark _)))))
        (pss_one (ps_dput hu (pv 0) pe_str (pe_bm PySem.F.plainAttrs_list PySem.F.slot_list_pop PySem.F.type_list_pop mt_popAt (pe_dget hu (pv 0) pe_str (fun _ _ => rfl)) (pa_cons pe_int pa_nil)) rfl)) pss_nil)
      (pss_cons (ps_if (pt_cmpR op_ge (pe_dget hu (pv 0) pe_str (fun _ _ => rfl)) (pv 1) (nomark _))
        (pss_cons (ps_set (i := 2) scDraw.nd rfl (.inl rfl) (pe_op op_mod (pe_dget hu (pv 0) pe_str (fun _ _ => rfl)) (pv 1)))
        (pss_cons (ps_dput hu (pv 0) pe_str (pe_op op_fdivW (pe_dget hu (pv 0) pe_str (fun _ _ => rfl)) (pv 1)) rfl)
        (pss_one (ps_ret (pv 2))))) pss_nil)
      (pss_cons (ps_daug hu (pv 0) pe_str pe_int in_add (fun _ _ _ => rfl))
      (pss_cons (ps_set (i := 3) scDraw.nd rfl (.inl rfl) (pe_dget hu (pv 0) pe_str (fun _ _ => rfl)))
      (pss_cons (ps_set (i := 4) scDraw.nd rfl (.inl rfl) (pe_op op_add
        (pe_op op_mul (pe_op op_add (pe_dget hu (pv 0) pe_str (fun _ _ => rfl)) (pe_op op_mul pe_int (pv 3))) (pe_op op_pow (pe_op op_add (pv 3) pe_int) pe_int))
        (pe_op op_mul pe_int (pv 3))))
      (pss_one (ps_ret (pe_op op_mod (pe_op op_fdiv (pe_op op_mod (pe_op op_pow (pe_op op_mod (pv 4) pe_int) pe_int) (pe_op op_add (pe_op op_pow pe_int pe_int) pe_int)) pe_int) (pv 1)))))))), ?_⟩
    refine ⟨fun τ H1 => τ = [some (.ref p), some (.int many), none, none, none] ∧ ∃ gs1 l1, BagAt H1 p G gs1 l1 t b ∧ (∀ c o, H c = some o → c ≠ p → c ≠ G → H1 c = some o), ?_, ?_⟩
    · refine ⟨_, rfl, p, _, rfl, B.gLeft, _, rfl, _, _, rfl, rfl, _, rfl, ?_⟩
      refine ite2 (fun c1 => ?_) (fun c1 => ?_)
      · refine ⟨_, rfl, p, _, rfl, B.gGreat, G, _, rfl, .inl (SqL.of B.list), _, _, rfl, rfl, _, rfl, ?_⟩
        refine ite2 (fun c2 => ?_) (fun c2 => ?_)
        · match gs, B, c2 with
          | [], B, c2 => exact absurd c2 (by decide)
          | g :: gs', B, c2 =>
            have B1 := B.popped
            have g0 : 0 ≤ g := B.gnn g List.mem_cons_self
            refine ⟨_, rfl, p, _, rfl, B.gGreat, .inl ⟨rfl, _, SqL.of B.list⟩, G, _, 0, 0, _, rfl, rfl, B.list, by decide, by decide, ?_, rfl, ?_⟩
            · show seqIndex? 0 ((g :: gs').map V.int).length = some 0
              rw [List.length_map, List.length_cons]
              simp [seqIndex?]
            refine ⟨_, rfl, p, _, rfl, B1.pLeft, rfl, gs', g, B1.setLeft g0, fun c o e n n' => ?_⟩
            rw [upd_ne n, upd_ne n']
            exact e
        · exact ⟨rfl, gs, l, B, fun c o e _ _ => e⟩
      · exact ⟨rfl, gs, l, B, fun c o e _ _ => e⟩
    · rintro τ H1 ⟨rfl, gs1, l1, B1, s1⟩
      refine ⟨_, rfl, p, _, rfl, B1.gLeft, _, rfl, _, _, rfl, rfl, _, rfl, ?_⟩
      refine ite2 (fun c1 => ?_) (fun c1 => ?_)
      · have q0 : 0 ≤ l1 / many := Int.ediv_nonneg B1.lnn (by omega)
        refine ⟨_, rfl, p, _, rfl, B1.gLeft, _, rfl, _, _, rfl, rfl, m0, ?_⟩
        refine ⟨_, rfl, p, _, rfl, B1.gLeft, _, rfl, _, _, rfl, rfl, wide_div m0 md (by decide) (by decide), _, rfl, p, _, rfl, B1.pLeft, _, rfl, ?_⟩
        refine k _ gs1 _ t _ (Int.emod_nonneg _ (by omega)) (Int.emod_lt_of_pos _ m0) (by omega) (B1.setLeft q0) fun c o e n n' => ?_
        rw [upd_ne n]
        exact s1 c o e n n'
      · have t0 := B.tnn
        have b0 := B.bnn
        have b1 : b < 2305843009213693951 := B.blt
        have B2 := B1.setTurn (x := t + 1) (by omega)
        refine ⟨_, rfl, p, _, rfl, B1.gTurn, _, _, rfl, rfl, _, B1.pTurn, ?_⟩
        refine ⟨_, rfl, p, _, rfl, B2.gTurn, ?_⟩
        refine ⟨_, rfl, p, _, rfl, B2.gBlend, _, rfl, _, _, rfl, rfl, .inl ⟨by decide, by decide⟩, _, _, rfl, rfl, _, rfl, _, _, rfl, rfl, _, _, rfl, rfl, ⟨by decide, by decide, by omega⟩, _, _, rfl, rfl, .inl ⟨by omega, by omega⟩, _, rfl, _, _, rfl, rfl, .inl ⟨by decide, by decide⟩, _, _, rfl, rfl, ?_⟩
        have v0 : ∀ x : Int, 0 ≤ x % P61 := fun x => Int.emod_nonneg _ (by decide)
        have v1 : ∀ x : Int, x % P61 < 2305843009213693951 := fun x => Int.emod_lt_of_pos _ (by decide)
        refine ⟨_, rfl, _, _, rfl, rfl, (by show (0 : Int) < P61; decide), _, _, rfl, rfl, ⟨by decide, by decide, ?_⟩, _, _, rfl, rfl, ⟨by decide, by decide, by decide⟩, _, _, rfl, rfl, _, _, rfl, rfl, (by show (0 : Int) < 10 ^ 18 + 9; decide), _, _, rfl, rfl, ⟨by decide, by decide⟩, _, rfl, _, _, rfl, rfl, m0, ?_⟩
        · have z0 := v0 ((b + 17 * (t + 1)) * (t + 1 + 29) ^ 2 + 7919 * (t + 1))
          have z1 := v1 ((b + 17 * (t + 1)) * (t + 1 + 29) ^ 2 + 7919 * (t + 1))
          show Int.natAbs (((b + 17 * (t + 1)) * (t + 1 + 29) ^ 2 + 7919 * (t + 1)) % P61) < 2 ^ 64
          generalize ((b + 17 * (t + 1)) * (t + 1 + 29) ^ 2 + 7919 * (t + 1)) % P61 = v at z0 z1
          omega
        · refine k _ gs1 l1 (t + 1) _ (Int.emod_nonneg _ (by omega)) (Int.emod_lt_of_pos _ m0) (by omega) B2 fun c o e n n' => ?_
          rw [upd_ne n]
          exact s1 c o e n n'
end
end K01
set_option Elab.async false
set_option linter.all false
set_option maxRecDepth 100000
set_option maxHeartbeats 4000000
namespace K01
open PySem L2 Wk
/-! ### the classes: def __init__(self, value): self.value = value -/
def spInit (C : Addr) : Sp := fun vs H Q _ => ∃ (a : Addr) (v : V), vs = [.ref a, v] ∧ H a = some (exo a C none) ∧
  ∀ dx, H dx = none → dx ≠ a → Q .non (upd (upd H dx (exd dx [("value", v)])) a (exo a C (some dx)))
/-- what the top has left of such a class -/
structure ClsT (K : PySem.W.Frag) (mg : Str → Option Value) (x : Str) (C fI : Addr) : Prop where
  g : mg x = some (.ref C)
  oex : OexC K C
  ini : PySem.W.findIn K (.ref C) "__init__" = some (some (.ref fI))
  ty : PySem.W.typeIn K (.ref fI) = some (.type "function")
  nov : PySem.W.findIn K (.ref C) "value" = some none
  isc : IsC K C
  xf : XfC K C
section
variable {P : Program} {w : World} {K : PySem.W.Frag} {mg : Str → Option Value} {base : Heap}
theorem ok_init {qual : Str} {st : Stmt} {f fI C : Addr} {fd : FuncData} {x : Str} (F : Fun K "__init__" qual st f fd) (S : FnScope ["self", "value"] ["self", "value"] (defScope st))
    (hb : ∃ q1 q2 q3 q4, defBody st = [.Assign [.Attribute (.Name "self" q1) "value" q2] (.Name "value" q3) q4])
    (hv : (defScope st).names = ([("self", .local), ("value", .local)] : List (Str × NameKind))) (T : ClsT K mg x C fI) : FnOk P w K mg base CX0 1 f fd ["self", "value"] (spInit C) := by
  obtain ⟨q1, q2, q3, q4, hb⟩ := hb
  refine F.ok S (fun vs H Q E h => ?_) (fun cdv A outer s H vs Q E hr h => ?_)
  · obtain ⟨a, v, rfl, _⟩ := h
    rfl
  · obtain ⟨a, v, rfl, ha, k⟩ := h
    rw [hb]
    refine ⟨_, pss_one (ps_ost (pe_var (i := 0) rfl ?_) (pe_var (i := 1) rfl ?_)), ?_⟩
    · left
      show (defScope st).names.lookup ("self" : Str) = some .local
      rw [hv]
      decide +kernel
    · left
      show (defScope st).names.lookup ("value" : Str) = some .local
      rw [hv]
      decide +kernel
    · exact ⟨_, rfl, _, rfl, a, C, rfl, T.oex, T.nov, .inl ⟨ha, fun dx n ne => k dx n ne⟩⟩
end
/-! ### _law_made(which, held): two errors of the class, with the value -/
/-- an error of the class at C with the value v stands at e -/
def Made (H : Hp) (C e : Addr) (v : V) : Prop := ∃ d, H e = some (exo e C (some d)) ∧ H d = some (exd d [("value", v)])
theorem Made.same {H H' : Hp} {C e : Addr} {v : V} (m : Made H C e v) (s : Same H H') : Made H' C e v := by
  obtain ⟨d, h1, h2⟩ := m
  exact ⟨d, s _ _ h1, s _ _ h2⟩
def spMade (cs : List Addr) : Sp := fun vs H Q _ => ∃ (i : Nat) (C : Addr) (v : V), vs = [.int i, v] ∧ i < 6 ∧ cs[i]? = some C ∧
  ∀ (L e1 e2 : Addr) (H' : Hp), H L = none → H' L = some (.lst [.ref e1, .ref e2]) → Made H' C e1 v → Made H' C e2 v → Same H H' → Q (.ref L) H'
section
variable {P : Program} {w : World} {K : PySem.W.Frag} {mg : Str → Option Value} {base : Heap}
theorem scMade : FnScope ["which", "held"] ["which", "held"] (defScope sMade) := ⟨rfl, rfl, rfl, by decide +kernel, rfl, by decide +kernel, by decide +kernel⟩
/-- one class with its __init__, as a caller needs it -/
structure ClsF (P : Program) (w : World) (K : PySem.W.Frag) (mg : Str → Option Value) (base : Heap) (x : Str) (C fI : Addr) (fd : FuncData) : Prop where
  t : ClsT K mg x C fI
  ok : FnOk P w K mg base CX0 1 fI fd ["self", "value"] (spInit C)
  b2 : KBn K fd ["self", "value"] 2 [] (fun us ws => us ++ ws) (fun us ws => us ++ ws)
  b1 : KBn K fd ["self", "value"] 1 ["value"] (fun us ws => us ++ ws) (fun us ws => us ++ ws)
/-- the reading of [X(held), X(value=held)] -/
def tBoth (C : Addr) : TE := tLst (tCons (tMkV C 1 0 (spInit C) (fun us ws => us ++ ws) (tCons (tVar 1) tNil) tNil) (tCons (tMkV C 0 1 (spInit C) (fun us ws => us ++ ws) tNil (tCons (tVar 1) tNil)) tNil))
theorem both_ok {C : Addr} {z v : V} {H : Hp} {Q : VK}
    (k : ∀ (L e1 e2 : Addr) (H' : Hp), H L = none → H' L = some (.lst [.ref e1, .ref e2]) → Made H' C e1 v → Made H' C e2 v → Same H H' → Q (.ref L) H') : tBoth C [some z, some v] H Q := by
  refine ⟨v, rfl, rfl, rfl, fun a na => ⟨a, v, rfl, upd_same, fun dx ndx ne => ⟨rfl, ?_⟩⟩⟩
  rw [upd_ne ne] at ndx
  refine ⟨v, rfl, rfl, rfl, fun b nb => ⟨b, v, rfl, upd_same, fun dy ndy ney => ⟨rfl, ?_⟩⟩⟩
  have ba : b ≠ a := fun z => by
    rw [z, upd_same] at nb
    cases nb
  rw [upd_ne ba] at nb
  have bx : b ≠ dx := fun z => by
    rw [z, upd_same] at nb
    cases nb
  rw [upd_ne bx] at nb
  have nb' : H b = none := by
    by_cases e : b = a
    · exact absurd e ba
    · rw [upd_ne e] at nb
      exact nb
  rw [upd_ne ney] at ndy
  have ya : dy ≠ a := fun z => by
    rw [z, upd_same] at ndy
    cases ndy
  rw [upd_ne ya] at ndy
  have yx : dy ≠ dx := fun z => by
    rw [z, upd_same] at ndy
    cases ndy
  rw [upd_ne yx, upd_ne ya] at ndy
  refine ⟨by show 2 ≤ sizeLine; decide, fun L nL => ?_⟩
  have Lb : L ≠ b := fun z => by
    rw [z, upd_same] at nL
    cases nL
  rw [upd_ne Lb] at nL
  have Ly : L ≠ dy := fun z => by
    rw [z, upd_same] at nL
    cases nL
  rw [upd_ne Ly, upd_ne Lb] at nL
  have La : L ≠ a := fun z => by
    rw [z, upd_same] at nL
    cases nL
  rw [upd_ne La] at nL
  have Lx : L ≠ dx := fun z => by
    rw [z, upd_same] at nL
    cases nL
  rw [upd_ne Lx, upd_ne La] at nL
  refine k L a b _ nL upd_same ⟨dx, ?_, ?_⟩ ⟨dy, ?_, ?_⟩ fun c o e => ?_
  · rw [upd_ne La.symm, upd_ne ba.symm, upd_ne ya.symm, upd_ne ba.symm, upd_same]
  · rw [upd_ne Lx.symm, upd_ne bx.symm, upd_ne yx.symm, upd_ne bx.symm, upd_ne ne, upd_same]
  · rw [upd_ne Lb.symm, upd_same]
  · rw [upd_ne Ly.symm, upd_ne ney, upd_same]
  · have c1 : c ≠ a := ne_of_none e na
    have c2 : c ≠ dx := ne_of_none e ndx
    have c3 : c ≠ b := ne_of_none e nb'
    have c4 : c ≠ dy := ne_of_none e ndy
    have c5 : c ≠ L := ne_of_none e nL
    rw [upd_ne c5, upd_ne c3, upd_ne c4, upd_ne c3, upd_ne c1, upd_ne c2, upd_ne c1]
    exact e

/-- a class's part of the chain -/
theorem pe_both {X : Cx} {x : Str} {C fI : Addr} {fd : FuncData} {p1 p2 p3 p4 p5 p6 p7 p8 : Pos} (F : ClsF X.prog X.w X.K X.mg X.base x C fI fd) (hr : Room 2 X.A) (hg : Gl X x) (hN : X.N[1]? = some ("held" : Str)) (hv : Vis X.env.scope ("held" : Str))
    (hdb : (x == ("__debug__" : Str)) = false) :
    PE X (.List [.Call (.Name x p1) [.Name "held" p2] [] p3, .Call (.Name x p4) [] [⟨some "value", .Name "held" p5, p6⟩] p7] p8) (tBoth C) :=
  pe_lst (pa_cons (pe_mkV F.t.oex F.t.ini F.t.ty F.ok hr F.b2 pass0 (by decide) hg F.t.g (pa_cons (pe_var hN hv) pa_nil) hdb)
    (pa_cons (pe_mkVK F.t.oex F.t.ini F.t.ty F.ok hr F.b1 pass0 hg F.t.g (pk_cons (pe_var hN hv) pk_nil) (by rfl) (by rfl) hdb) pa_nil))
theorem ok_made {f C0 C1 C2 C3 C4 C5 f0 f1 f2 f3 f4 f5 : Addr} {fd d0 d1 d2 d3 d4 d5 : FuncData} (F : Fun K "_law_made" "_law_made" sMade f fd)
    (F0 : ClsF P w K mg base "InvalidTable" C0 f0 d0) (F1 : ClsF P w K mg base "InvalidNumber" C1 f1 d1) (F2 : ClsF P w K mg base "InvalidWords" C2 f2 d2)
    (F3 : ClsF P w K mg base "InvalidRange" C3 f3 d3) (F4 : ClsF P w K mg base "NothingToUndo" C4 f4 d4) (F5 : ClsF P w K mg base "Unreadable" C5 f5 d5) :
    FnOk P w K mg base CX0 3 f fd ["which", "held"] (spMade [C0, C1, C2, C3, C4, C5]) := by
  refine F.ok scMade (fun vs H Q E h => ?_) (fun cdv A outer s H vs Q E hr h => ?_)
  · obtain ⟨i, C, v, rfl, _⟩ := h
    rfl
  · obtain ⟨i, C, v, rfl, hi, hC, k⟩ := h
    refine ⟨_, pss_cons (ps_if (pt_cmpR op_eq (pv 0) pe_int (nomark _)) (pss_one (ps_ret (pe_both F0 hr rfl rfl (.inl rfl) (by decide)))) pss_nil)
      (pss_cons (ps_if (pt_cmpR op_eq (pv 0) pe_int (nomark _)) (pss_one (ps_ret (pe_both F1 hr rfl rfl (.inl rfl) (by decide)))) pss_nil)
      (pss_cons (ps_if (pt_cmpR op_eq (pv 0) pe_int (nomark _)) (pss_one (ps_ret (pe_both F2 hr rfl rfl (.inl rfl) (by decide)))) pss_nil)
      (pss_cons (ps_if (pt_cmpR op_eq (pv 0) pe_int (nomark _)) (pss_one (ps_ret (pe_both F3 hr rfl rfl (.inl rfl) (by decide)))) pss_nil)
      (pss_cons (ps_if (pt_cmpR op_eq (pv 0) pe_int (nomark _)) (pss_one (ps_ret (pe_both F4 hr rfl rfl (.inl rfl) (by decide)))) pss_nil)
      (pss_one (ps_ret (pe_both F5 hr rfl rfl (.inl rfl) (by decide)))))))), ?_⟩
    match i, hi, hC with
    | 0, _, hC =>
      cases hC
      refine ⟨_, rfl, rfl, _, rfl, iteT ?_⟩
      exact both_ok k
    | 1, _, hC =>
      cases hC
      refine ⟨_, rfl, rfl, _, rfl, iteF ⟨_, rfl, rfl, _, rfl, iteT ?_⟩⟩
      exact both_ok k
    | 2, _, hC =>
      cases hC
      refine ⟨_, rfl, rfl, _, rfl, iteF ⟨_, rfl, rfl, _, rfl, iteF ⟨_, rfl, rfl, _, rfl, iteT ?_⟩⟩⟩
      exact both_ok k
    | 3, _, hC =>
      cases hC
      refine ⟨_, rfl, rfl, _, rfl, iteF ⟨_, rfl, rfl, _, rfl, iteF ⟨_, rfl, rfl, _, rfl, iteF ⟨_, rfl, rfl, _, rfl, iteT ?_⟩⟩⟩⟩
      exact both_ok k
    | 4, _, hC =>
      cases hC
      refine ⟨_, rfl, rfl, _, rfl, iteF ⟨_, rfl, rfl, _, rfl, iteF ⟨_, rfl, rfl, _, rfl, iteF ⟨_, rfl, rfl, _, rfl, iteF ⟨_, rfl, rfl, _, rfl, iteT ?_⟩⟩⟩⟩⟩
      exact both_ok k
    | 5, _, hC =>
      cases hC
      refine ⟨_, rfl, rfl, _, rfl, iteF ⟨_, rfl, rfl, _, rfl, iteF ⟨_, rfl, rfl, _, rfl, iteF ⟨_, rfl, rfl, _, rfl, iteF ⟨_, rfl, rfl, _, rfl, iteF ?_⟩⟩⟩⟩⟩
      exact both_ok k
end
end K01
set_option Elab.async false
set_option linter.all false
set_option maxRecDepth 100000
set_option maxHeartbeats 4000000
namespace K01
open PySem L2 Wk
/-! ### _law_flags(one): which of the six classes it is of -/
def flagsOf (i : Nat) : List V := [.bl (decide (i = 0)), .bl (decide (i = 1)), .bl (decide (i = 2)), .bl (decide (i = 3)), .bl (decide (i = 4)), .bl (decide (i = 5))]
def spFlags (cs : List Addr) : Sp := fun vs H Q _ => ∃ (e : Addr) (i : Nat) (C : Addr) (v : V), vs = [.ref e] ∧ cs[i]? = some C ∧ Made H C e v ∧
  ∀ (L : Addr) (H' : Hp), H L = none → H' L = some (.lst (flagsOf i)) → Same H H' → Q (.ref L) H'
/-- isinstance tells the classes apart -/
def Apart (K : PySem.W.Frag) (cs : List Addr) : Prop := ∀ (i j : Nat) (C D : Addr), cs[i]? = some C → cs[j]? = some D → PySem.W.kitOne K (.ref C) (.ref D) = some (decide (i = j))
section
variable {P : Program} {w : World} {K : PySem.W.Frag} {mg : Str → Option Value} {base : Heap}
theorem scFlags : FnScope ["one", "found"] ["one"] (defScope sFlags) := ⟨rfl, rfl, rfl, by decide +kernel, rfl, by decide +kernel, by decide +kernel⟩
theorem ok_flags {f C0 C1 C2 C3 C4 C5 : Addr} {fd : FuncData} (F : Fun K "_law_flags" "_law_flags" sFlags f fd) (mI : mg "isinstance" = none)
    (g0 : mg "InvalidTable" = some (.ref C0)) (g1 : mg "InvalidNumber" = some (.ref C1)) (g2 : mg "InvalidWords" = some (.ref C2)) (g3 : mg "InvalidRange" = some (.ref C3)) (g4 : mg "NothingToUndo" = some (.ref C4)) (g5 : mg "Unreadable" = some (.ref C5))
    (hI : ∀ C ∈ [C0, C1, C2, C3, C4, C5], IsC K C) (hA : Apart K [C0, C1, C2, C3, C4, C5]) :
    FnOk P w K mg base CX0 1 f fd ["one"] (spFlags [C0, C1, C2, C3, C4, C5]) := by
  refine F.ok scFlags (fun vs H Q E h => ?_) (fun cdv A outer s H vs Q E hr h => ?_)
  · obtain ⟨e, i, C, v, rfl, _⟩ := h
    rfl
  · obtain ⟨e, i, C, v, rfl, hC, ⟨d, m1, m2⟩, k⟩ := h
    have ic : IsC K C := hI C (List.mem_of_getElem? hC)
    refine ⟨_, pss_cons (ps_set (i := 1) scFlags.nd rfl (.inl rfl) (pe_lst
        (pa_cons (pe_callB call_isX (by rfl) mI (by decide +kernel) (pa_cons (pv 0) (pa_cons (pe_glob (v := .ref C0) rfl g0 rfl) pa_nil)))
        (pa_cons (pe_callB call_isX (by rfl) mI (by decide +kernel) (pa_cons (pv 0) (pa_cons (pe_glob (v := .ref C1) rfl g1 rfl) pa_nil)))
        (pa_cons (pe_callB call_isX (by rfl) mI (by decide +kernel) (pa_cons (pv 0) (pa_cons (pe_glob (v := .ref C2) rfl g2 rfl) pa_nil))) pa_nil)))))
      (pss_one (ps_ret (pe_op op_cat (pv 1) (pe_lst
        (pa_cons (pe_callB call_isX (by rfl) mI (by decide +kernel) (pa_cons (pv 0) (pa_cons (pe_glob (v := .ref C3) rfl g3 rfl) pa_nil)))
        (pa_cons (pe_callB call_isX (by rfl) mI (by decide +kernel) (pa_cons (pv 0) (pa_cons (pe_glob (v := .ref C4) rfl g4 rfl) pa_nil)))
        (pa_cons (pe_callB call_isX (by rfl) mI (by decide +kernel) (pa_cons (pv 0) (pa_cons (pe_glob (v := .ref C5) rfl g5 rfl) pa_nil))) pa_nil))))))), ?_⟩
    refine ⟨_, rfl, e, C, d, _, _, _, _, rfl, m1, m2, ic, .own C0, hA i 0 C C0 hC rfl, ?_⟩
    refine ⟨_, rfl, e, C, d, _, _, _, _, rfl, m1, m2, ic, .own C1, hA i 1 C C1 hC rfl, ?_⟩
    refine ⟨_, rfl, e, C, d, _, _, _, _, rfl, m1, m2, ic, .own C2, hA i 2 C C2 hC rfl, ?_⟩
    refine ⟨by show 3 ≤ sizeLine; decide, fun p np => ?_⟩
    have s1 : Same H (upd H p (.lst [.bl (decide (i = 0)), .bl (decide (i = 1)), .bl (decide (i = 2))])) := fun b o z => by
      rw [upd_ne (ne_of_none z np)]
      exact z
    have m1' := s1 _ _ m1
    have m2' := s1 _ _ m2
    refine ⟨_, rfl, _, rfl, e, C, d, _, _, _, _, rfl, m1', m2', ic, .own C3, hA i 3 C C3 hC rfl, ?_⟩
    refine ⟨_, rfl, e, C, d, _, _, _, _, rfl, m1', m2', ic, .own C4, hA i 4 C C4 hC rfl, ?_⟩
    refine ⟨_, rfl, e, C, d, _, _, _, _, rfl, m1', m2', ic, .own C5, hA i 5 C C5 hC rfl, ?_⟩
    refine ⟨by show 3 ≤ sizeLine; decide, fun q nq => ?_⟩
    have qp : q ≠ p := fun z => by
      rw [z, upd_same] at nq
      cases nq
    have nq0 : H q = none := by
      rw [upd_ne qp] at nq
      exact nq
    refine ⟨p, q, _, _, rfl, rfl, by rw [upd_ne qp.symm, upd_same], upd_same, by show 6 ≤ sizeLine; decide, fun r nr => ?_⟩
    have rq : r ≠ q := fun z => by
      rw [z, upd_same] at nr
      cases nr
    have rp : r ≠ p := fun z => by
      rw [z, upd_ne qp.symm, upd_same] at nr
      cases nr
    have nr0 : H r = none := by
      rw [upd_ne rq, upd_ne rp] at nr
      exact nr
    refine k r _ nr0 upd_same fun b o z => ?_
    rw [upd_ne (ne_of_none z nr0), upd_ne (ne_of_none z nq0), upd_ne (ne_of_none z np)]
    exact z
end
end K01
set_option Elab.async false
set_option linter.all false
set_option maxRecDepth 100000
set_option maxHeartbeats 8000000
namespace K01
open PySem L2 Wk
/-! ### what the list of values holds: data that repr tells -/
def Held (H : Hp) (v : V) : Prop := v = .non ∨ (∃ n : Int, v = .int n ∧ n.natAbs < 2 ^ 100) ∨ v = .str "two one" ∨ v = .str "" ∨
  ∃ (q : Addr) (n : Int), v = .ref q ∧ H q = some (.tup [.int n, .int (-1)]) ∧ 0 ≤ n ∧ n < 9
theorem Held.keep {H H' : Hp} {v : V} (h : Held H v) (s : ∀ q xs, H q = some (.tup xs) → H' q = some (.tup xs)) : Held H' v := by
  rcases h with h | h | h | h | ⟨q, n, e, t, z⟩
  · exact .inl h
  · exact .inr (.inl h)
  · exact .inr (.inr (.inl h))
  · exact .inr (.inr (.inr (.inl h)))
  · exact .inr (.inr (.inr (.inr ⟨q, n, e, s _ _ t, z⟩)))
theorem shows_int {n : Int} (h : n.natAbs < 2 ^ 100) : n.natAbs.log2 < 1920 :=
  Nat.lt_of_lt_of_le (PySem.Flt.log2_lt_of (by decide) h) (by decide)
theorem pair_short : ∀ k : Fin 9, (PyData.shown (.tuple [.int (k.1 : Int), .int (-1)])).length ≤ sizeLine := by decide +kernel
theorem Held.repr {K : PySem.W.Frag} {H : Hp} {v : V} (h : Held H v) : ∃ z : Str, ∀ (H' : Hp) (Q : VK), (∀ c xs, H c = some (.tup xs) → H' c = some (.tup xs)) → Q (.str z) H' → rRepr K [v] H' Q := by
  have main : ∃ d : PyData, d.showable = true ∧ d.hasDict = false ∧ d.depth ≤ 60 ∧ (d.shown.length ≤ sizeLine ∨ ∃ i, d = .int i) ∧
      ∀ H', (∀ c xs, H c = some (.tup xs) → H' c = some (.tup xs)) → Dp K H' v d := by
    rcases h with rfl | ⟨n, rfl, hn⟩ | rfl | rfl | ⟨a, n, rfl, ht, h0, h9⟩
    · exact ⟨.none, rfl, rfl, by decide, .inl (by decide +kernel), fun _ _ => .non⟩
    · exact ⟨.int n, by simp only [PyData.showable]; exact decide_eq_true (shows_int hn), rfl, Nat.le_of_ble_eq_true rfl, .inr ⟨n, rfl⟩, fun _ _ => .int n⟩
    · exact ⟨.str "two one", rfl, rfl, by decide, .inl (by decide +kernel), fun _ _ => .str _⟩
    · exact ⟨.str "", rfl, rfl, by decide, .inl (by decide +kernel), fun _ _ => .str _⟩
    · refine ⟨.tuple [.int n, .int (-1)], ?_, rfl, Nat.le_of_ble_eq_true rfl, .inl ?_, fun H' s => .tup (.inl (.inl (s _ _ ht))) (.cons (.int n) (.cons (.int (-1)) .nil))⟩
      · simp only [PyData.showable, PyData.showableAll, Bool.and_true]
        rw [decide_eq_true (shows_int (n := n) (by omega))]
        decide
      · have e := pair_short ⟨n.toNat, by omega⟩
        rw [show (((⟨n.toNat, by omega⟩ : Fin 9).1 : Nat) : Int) = n by simp only; omega] at e
        exact e
  obtain ⟨d, d1, d2, d3, d4, d5⟩ := main
  exact ⟨d.shown, fun H' Q s w => ⟨v, d, rfl, d5 H' s, d1, d2, d3, d4, w⟩⟩
theorem BagAt.mono {H H' : Hp} {p G : Addr} {gs : List Int} {l t b : Int} (B : BagAt H p G gs l t b) (s : Same H H') : BagAt H' p G gs l t b :=
  ⟨s _ _ B.dict, s _ _ B.list, B.gnn, B.lnn, B.tnn, B.bnn, B.blt, B.few⟩
/-- tuples stand behind a draw -/
theorem BagAt.tups {H H' : Hp} {p G : Addr} {gs : List Int} {l t b : Int} (B : BagAt H p G gs l t b) (s : ∀ c o, H c = some o → c ≠ p → c ≠ G → H' c = some o) :
    ∀ q xs, H q = some (.tup xs) → H' q = some (.tup xs) := fun q xs e =>
  s q _ e (ne_of e B.dict (by intro z; cases z)) (ne_of e B.list (by intro z; cases z))
end K01
set_option Elab.async false
set_option linter.all false
set_option maxRecDepth 100000
set_option maxHeartbeats 8000000
namespace K01
open PySem L2 Wk
def spLaw (K : PySem.W.Frag) : Sp := fun vs H Q _ => ∃ (a : Addr) (ns : List Int), vs = [.ref a] ∧ SqL K H a (ns.map V.int) ∧ ns.length ≤ 63 ∧ ∀ H', Q (.bl true) H'
/-- a def that the law calls -/
structure Def1 (P : Program) (w : World) (K : PySem.W.Frag) (mg : Str → Option Value) (base : Heap) (x : Str) (k : Nat) (f : Addr) (fd : FuncData) (ps : List Str) (sp : Sp) : Prop where
  ok : FnOk P w K mg base CX0 k f fd ps sp
  g : mg x = some (.ref f)
  k : PySem.W.keepIn K (.ref f) = true
  b : Binds K fd ps []
structure TxtL (K : PySem.W.Frag) (mg : Str → Option Value) (cs : List Addr) (O C0 C1 C5 : Addr) : Prop where
  range : mg "range" = none
  min : mg "min" = none
  len : mg "len" = none
  repr : mg "repr" = none
  isi : mg "isinstance" = none
  ve : mg "ValueError" = none
  gO : mg "OrderError" = some (.ref O)
  g0 : mg "InvalidTable" = some (.ref C0)
  g1 : mg "InvalidNumber" = some (.ref C1)
  g5 : mg "Unreadable" = some (.ref C5)
  exO : PySem.W.excIn K O [.type "ValueError", .type "Exception", .type "BaseException", .type "object"] "ValueError.__new__" = true
  kO : PySem.W.keepIn K (.ref O) = true
  iO : IsC K O
  oT : PySem.W.kitAny K (.ref O) [.ref C0, .ref C1, .ref C5] = some false
  iC : ∀ C ∈ cs, IsC K C
  xC : ∀ C ∈ cs, XfC K C
  nC : ∀ C ∈ cs, PySem.W.findIn K (.ref C) "value" = some none
  sO : ∀ C ∈ cs, PySem.W.kitOne K (.ref C) (.ref O) = some true
  sV : ∀ C ∈ cs, PySem.W.kitOne K (.ref C) (.type "ValueError") = some true
theorem scLaw : FnScope ["script", "bag", "turn", "some", "which", "held", "one", "spot_now"] ["script"] (defScope sLaw) := ⟨rfl, rfl, rfl, by decide +kernel, rfl, by decide +kernel, by decide +kernel⟩
/-- the values that are drawn from -/
def items (r1 r2 : Int) (q : Addr) : List V := [.non, .int r1, .int (0 - r2), .int (10 ^ 29), .str "two one", .str "", .ref q]
/-- [spot_now == which for spot_now in range(6)] is the flags' list -/
theorem comp_is : ∀ {j : Nat}, j < 6 → (List.range 6).map (fun (q : Nat) => V.bl (decide (V.int ((0 : Int) + (q : Int)) = V.int (j : Int)))) = flagsOf j := by
  intro j hj
  match j, hj with
  | 0, _ => decide +kernel
  | 1, _ => decide +kernel
  | 2, _ => decide +kernel
  | 3, _ => decide +kernel
  | 4, _ => decide +kernel
  | 5, _ => decide +kernel
/-- two lists of the same flags -/
def flagsD (i : Nat) : PyData := .list [.bool (decide (i = 0)), .bool (decide (i = 1)), .bool (decide (i = 2)), .bool (decide (i = 3)), .bool (decide (i = 4)), .bool (decide (i = 5))]
theorem flags_dp {K : PySem.W.Frag} {H : Hp} {L : Addr} {i : Nat} (h : H L = some (.lst (flagsOf i))) : Dp K H (.ref L) (flagsD i) :=
  .lst (SqL.of h) (.cons (.bl _) (.cons (.bl _) (.cons (.bl _) (.cons (.bl _) (.cons (.bl _) (.cons (.bl _) .nil))))))
theorem flags_eq {K : PySem.W.Frag} {H : Hp} {L D : Addr} {i : Nat} {Q : VK} (h1 : H L = some (.lst (flagsOf i))) (h2 : H D = some (.lst (flagsOf i))) (k : Q (.bl false) H) : rNeD K (.ref L) (.ref D) H Q := by
  refine ⟨flagsD i, flagsD i, flags_dp h1, flags_dp h2, rfl, rfl, ?_⟩
  rw [PySem.SeqAt.eqv_refl (flagsD i) rfl]
  exact k
section
variable {P : Program} {w : World} {K : PySem.W.Frag} {mg : Str → Option Value} {base : Heap}
theorem ok_law {f fB fD fM fF O C0 C1 C2 C3 C4 C5 : Addr} {fd dB dD dM dF : FuncData} (F : Fun K "law" "law" sLaw f fd)
    (B : Def1 P w K mg base "_law_bag" 1 fB dB ["script"] (spBag K)) (D : Def1 P w K mg base "_law_draw" 1 fD dD ["bag", "many"] spDraw)
    (M : Def1 P w K mg base "_law_made" 3 fM dM ["which", "held"] (spMade [C0, C1, C2, C3, C4, C5])) (L : Def1 P w K mg base "_law_flags" 1 fF dF ["one"] (spFlags [C0, C1, C2, C3, C4, C5]))
    (T : TxtL K mg [C0, C1, C2, C3, C4, C5] O C0 C1 C5) : FnG P w K mg base CX0 4 f fd ["script"] (spLaw K) := by
  refine okG F scLaw (fun vs H Q E h => ?_) (fun cdv A outer s H vs Q E gd hr h => ?_)
  · obtain ⟨a, ns, rfl, _⟩ := h
    rfl
  · obtain ⟨a, ns, rfl, hS, hlen, k⟩ := h
    have hr1 : Room 1 _ := hr.mono (by decide)
    refine ⟨_, pss_cons (ps_set (i := 1) scLaw.nd rfl (.inl rfl) (pe_call B.ok hr1 (by rfl) B.g B.k B.b .nil pass0 (pa_cons (pv 0) pa_nil)))
      (pss_cons (ps_for PassesOwn.never rfl (pi_range1 rfl T.range (pa_cons (pe_op op_add pe_int (pe_callB (call_min2 rfl) (by rfl) T.min (by decide +kernel)
            (pa_cons pe_int (pa_cons (pe_callB call_len_seq (by rfl) T.len PySem.boot_len (pa_cons (pv 0) pa_nil)) pa_nil)))) pa_nil)) (pg_name (i := 2) scLaw.nd rfl (.inl rfl))
        (pss_cons (ps_set (i := 3) scLaw.nd rfl (.inl rfl) (pe_lst (pa_cons pe_non (pa_cons (pe_call D.ok hr1 (by rfl) D.g D.k D.b .nil pass0 (pa_cons (pv 1) (pa_cons pe_int pa_nil)))
          (pa_cons (pe_op op_sub pe_int (pe_call D.ok hr1 (by rfl) D.g D.k D.b .nil pass0 (pa_cons (pv 1) (pa_cons (pe_op op_pow pe_int pe_int) pa_nil))))
          (pa_cons (pe_op op_pow pe_int pe_int) (pa_cons pe_str (pa_cons pe_str pa_nil))))))))
        (pss_cons (ps_expr (pe_bm PySem.F.plainAttrs_list PySem.F.slot_list_append PySem.F.type_list_append mt_append (pv 3)
          (pa_cons (pe_tup (pa_cons (pe_call D.ok hr1 (by rfl) D.g D.k D.b .nil pass0 (pa_cons (pv 1) (pa_cons pe_int pa_nil))) (pa_cons (pe_un un_neg pe_int) pa_nil))) pa_nil)))
        (pss_one (ps_for PassesOwn.never rfl (pi_range1 rfl T.range (pa_cons pe_int pa_nil)) (pg_name (i := 4) scLaw.nd rfl (.inr rfl))
          (pss_cons (ps_set (i := 5) scLaw.nd rfl (.inl rfl) (pe_ix ix_list (pv 3) (pe_call D.ok hr1 (by rfl) D.g D.k D.b .nil pass0 (pa_cons (pv 1)
              (pa_cons (pe_callB call_len_seq (by rfl) T.len PySem.boot_len (pa_cons (pv 3) pa_nil)) pa_nil))) (fun _ _ => rfl)))
          (pss_one (ps_for PassesOwn.never rfl (pi_list (pe_call M.ok hr (by rfl) M.g M.k M.b .nil pass0 (pa_cons (pv 4) (pa_cons (pv 5) pa_nil)))) (pg_name (i := 6) scLaw.nd rfl (.inl rfl))
            (pss_cons (ps_if (PW.pt (pw_or (pt_cmpR (op_neD hr.units) (pe_call L.ok hr1 (by rfl) L.g L.k L.b .nil pass0 (pa_cons (pv 6) pa_nil))
                (pe_lc (own := [("spot_now", 7)]) (g := gName 7) (tt := tYes) rfl scLaw.nd (pi_range1 rfl T.range (pa_cons pe_int pa_nil))
                  (blkOk_by (N := ["script", "bag", "turn", "some", "which", "held", "one", "spot_now"]) (sc := defScope sLaw) (by decide +kernel))
                  (fun _ _ _ _ _ => pg_name (i := 7) scLaw.nd rfl (Or.inl rfl)) (fun _ _ _ _ _ => pts_nil) (fun _ _ _ _ _ => pe_cmpR op_eq (pv 7) (pv 4) (nomark _))) (nomark _))
              (pw_or1 (pt_cmpR op_ne (pe_callB (call_repr (by exact gd) hr.units) (by rfl) T.repr (by decide +kernel) (pa_cons (pe_xv (pv 6)) pa_nil))
                (pe_callB (call_repr (by exact gd) hr.units) (by rfl) T.repr (by decide +kernel) (pa_cons (pv 5) pa_nil)) (nomark _)))))
              (pss_one (ps_ret pe_bl)) pss_nil)
            (pss_one (ps_if (PW.pt (pw_or (pt_not (pt_val (pe_callB call_isX (by rfl) T.isi (by decide +kernel) (pa_cons (pv 6) (pa_cons (pe_glob (v := .ref O) rfl T.gO rfl) pa_nil)))))
              (pw_or1 (pt_not (pt_val (pe_callB call_isX (by rfl) T.isi (by decide +kernel) (pa_cons (pv 6) (pa_cons (pe_bltn (v := .ty "ValueError") rfl T.ve (by decide +kernel) rfl) pa_nil))))))))
              (pss_one (ps_ret pe_bl)) pss_nil)))))))))))
      (pss_one (ps_ret (pe_not (pe_callB call_isXT (by rfl) T.isi (by decide +kernel) (pa_cons (pe_exc0 PySem.F.excBase_ValueError T.exO T.gO T.kO rfl)
        (pa_cons (pe_tup (pa_cons (pe_glob (v := .ref C0) rfl T.g0 rfl) (pa_cons (pe_glob (v := .ref C1) rfl T.g1 rfl) (pa_cons (pe_glob (v := .ref C5) rfl T.g5 rfl) pa_nil)))) pa_nil))))))), ?_⟩
    -- bag = _law_bag(script)
    refine ⟨_, rfl, a, ns, rfl, hS, hlen, fun p G gs b H1 np nG B1 s1 => ?_⟩
    -- for turn in range(4 + min(8, len(script)))
    have hn : ∃ n : Nat, (4 + if (((ns.map V.int).length : Nat) : Int) < 8 then (((ns.map V.int).length : Nat) : Int) else 8) = (n : Int) ∧ n ≤ 12 := by
      refine ⟨4 + if (ns.map V.int).length < 8 then (ns.map V.int).length else 8, ?_, ?_⟩
      · split <;> split <;> omega
      · split <;> omega
    obtain ⟨n, en, n12⟩ := hn
    refine ⟨_, rfl, a, _, rfl, .inl (s1.seq hS), _, _, rfl, _, _, rfl, rfl, (n : Int), congrArg (fun z => [V.int z]) en, by omega, by omega, ?_⟩
    refine for_range (lo := 0) (n := ((n : Int)).toNat) (fun i σ H2 => ∃ (x2 x3 x4 x5 x6 x7 : Option V) (gs : List Int) (l t : Int), σ = [some (.ref a), some (.ref p), x2, x3, x4, x5, x6, x7] ∧ BagAt H2 p G gs l t b ∧ t ≤ 200 * (i : Int) ∧ Same H H2)
      ⟨none, none, none, none, none, none, gs, 0, 0, rfl, B1, by omega, s1⟩ ?_ ?_
    · rintro i σ H2 hi ⟨x2, x3, x4, x5, x6, x7, gs, l, t, rfl, B2, ht, s2⟩
      have i12 : i < 12 := by omega
      have keep : ∀ {H' H'' : Hp}, Same H H' → (∀ c o, H' c = some o → c ≠ p → c ≠ G → H'' c = some o) → Same H H'' := fun s e c o z =>
        e c o (s c o z) (ne_of_none z np) (ne_of_none z nG)
      -- the list of values
      refine ⟨_, rfl, p, G, gs, l, t, b, 99, rfl, B2, by decide, by decide, by omega, fun r1 gs3 l3 t3 H3 r10 r11 ht3 B3 e3 => ?_⟩
      refine ⟨_, rfl, _, _, rfl, rfl, ⟨by decide, by decide, by decide⟩, p, G, gs3, l3, t3, b, _, rfl, B3, by decide, by decide, by omega, fun r2 gs4 l4 t4 H4 r20 r21 ht4 B4 e4 => ?_⟩
      refine ⟨_, _, rfl, rfl, _, _, rfl, rfl, ⟨by decide, by decide, by decide⟩, by show 6 ≤ sizeLine; decide, fun S nS => ?_⟩
      have s4 : Same H H4 := keep (keep s2 e3) e4
      have Sp : S ≠ p := fun z => by
        rw [z, B4.dict] at nS
        cases nS
      have SG : S ≠ G := fun z => by
        rw [z, B4.list] at nS
        cases nS
      have r2b : r2 < 1000000000000000 := r21
      have ht3' : t3 ≤ t + 1 := ht3
      generalize hx : ([.non, .int r1, .int (0 - r2), .int (10 ^ Int.toNat 29), .str "two one", .str ""] : List V) = front
      have B5 : BagAt (upd H4 S (.lst front)) p G gs4 l4 t4 b := B4.same (upd_ne Sp.symm) (upd_ne SG.symm)
      -- some.append((_law_draw(bag, 9), -1))
      refine ⟨_, rfl, .inl ⟨rfl, _, SqL.of upd_same⟩, _, rfl, p, G, gs4, l4, t4, b, 9, rfl, B5, by decide, by decide, by omega, fun r3 gs6 l6 t6 H6 r30 r31 ht6 B6 e6 => ?_⟩
      have hS6 : H6 S = some (.lst front) := e6 S _ upd_same Sp SG
      have s6 : Same H H6 := fun c o z => by
        refine e6 c o ?_ (ne_of_none z np) (ne_of_none z nG)
        have z4 := s4 c o z
        rw [upd_ne (ne_of_none z4 nS)]
        exact z4
      refine ⟨_, rfl, by show 2 ≤ sizeLine; decide, fun q nq => ⟨S, front, _, rfl, rfl, ?_, ?_, ?_⟩⟩
      · rw [upd_ne (ne_of_none hS6 nq)]
        exact hS6
      · rw [← hx]
        exact small1000 (by show 6 ≤ 1000; decide)
      have qS : S ≠ q := ne_of_none hS6 nq
      have qp : p ≠ q := ne_of_none B6.dict nq
      have qG : G ≠ q := ne_of_none B6.list nq
      have B7 : BagAt (upd (upd H6 q (.tup [.int r3, .int (-1)])) S (.lst (front ++ [.ref q]))) p G gs6 l6 t6 b :=
        B6.same (by rw [upd_ne Sp.symm, upd_ne qp]) (by rw [upd_ne SG.symm, upd_ne qG])
      have s7 : Same H (upd (upd H6 q (.tup [.int r3, .int (-1)])) S (.lst (front ++ [.ref q]))) := fun c o z => by
        have z4 := s4 c o z
        have z6 := s6 c o z
        rw [upd_ne (ne_of_none z4 nS), upd_ne (ne_of_none z6 nq)]
        exact z6
      have held7 : ∀ v ∈ front ++ [V.ref q], Held (upd (upd H6 q (.tup [.int r3, .int (-1)])) S (.lst (front ++ [.ref q]))) v := by
        intro v hv
        rw [← hx] at hv
        rcases List.mem_append.mp hv with hv | hv
        · rcases List.mem_cons.mp hv with hv | hv
          · exact .inl hv
          rcases List.mem_cons.mp hv with hv | hv
          · exact .inr (.inl ⟨r1, hv, by omega⟩)
          rcases List.mem_cons.mp hv with hv | hv
          · exact .inr (.inl ⟨0 - r2, hv, by omega⟩)
          rcases List.mem_cons.mp hv with hv | hv
          · exact .inr (.inl ⟨_, hv, by decide⟩)
          rcases List.mem_cons.mp hv with hv | hv
          · exact .inr (.inr (.inl hv))
          · exact .inr (.inr (.inr (.inl (List.mem_singleton.mp hv))))
        · exact .inr (.inr (.inr (.inr ⟨q, r3, List.mem_singleton.mp hv, by rw [upd_ne qS.symm, upd_same], r30, r31⟩)))
      have len7 : (front ++ [V.ref q]).length = 7 := by
        rw [← hx]
        rfl
      generalize front ++ [V.ref q] = its at B7 s7 held7 len7
      generalize hH7 : upd (upd H6 q (.tup [.int r3, .int (-1)])) S (.lst its) = H7 at B7 s7 held7
      have hS7 : H7 S = some (.lst its) := by
        rw [← hH7]
        exact upd_same
      -- for which in range(6)
      refine ⟨6, rfl, by decide, by decide, for_range (lo := 0) (n := 6) (fun j σ H8 => ∃ (x4 x5 x6 x7 : Option V) (gs : List Int) (l t : Int), σ = [some (.ref a), some (.ref p), some (.int (0 + (i : Int))), some (.ref S), x4, x5, x6, x7] ∧
        BagAt H8 p G gs l t b ∧ t ≤ t6 + (j : Int) ∧ Same H H8 ∧ H8 S = some (.lst its) ∧ ∀ v ∈ its, Held H8 v)
        ⟨x4, x5, x6, x7, gs6, l6, t6, rfl, B7, by omega, s7, hS7, held7⟩ ?_ ?_⟩
      · rintro j σ H8 hj ⟨x4, x5, x6, x7, gs, l, t, rfl, B8, ht8, s8, hS8, held8⟩
        have S8 : S ≠ p := Sp
        -- held = some[_law_draw(bag, len(some))]
        rw [Int.zero_add]
        refine ⟨_, rfl, _, rfl, _, rfl, S, _, rfl, .inl (SqL.of hS8), p, G, gs, l, t, b, ((its.length : Nat) : Int), rfl, B8, by omega, by omega, by omega, fun r gs9 l9 t9 H9 r0 rl ht9 B9 e9 => ?_⟩
        have hS9 : H9 S = some (.lst its) := e9 S _ hS8 Sp SG
        have s9 : Same H H9 := keep s8 e9
        have held9 : ∀ v ∈ its, Held H9 v := fun v hv => (held8 v hv).keep (B8.tups e9)
        obtain ⟨m, rfl⟩ : ∃ m : Nat, r = (m : Int) := ⟨r.toNat, by omega⟩
        have hm : m < its.length := by omega
        obtain ⟨v, hv⟩ : ∃ v, its[m]? = some v := ⟨_, List.getElem?_eq_getElem hm⟩
        have vh := held9 v (List.mem_of_getElem? hv)
        refine ⟨S, its, _, v, rfl, rfl, SqL.of hS9, atI_nat hv, ?_⟩
        -- for one in _law_made(which, held)
        obtain ⟨C, hC⟩ : ∃ C, [C0, C1, C2, C3, C4, C5][j]? = some C := ⟨_, List.getElem?_eq_getElem (show j < 6 from hj)⟩
        have mC : C ∈ [C0, C1, C2, C3, C4, C5] := List.mem_of_getElem? hC
        refine ⟨_, rfl, _, rfl, j, C, v, rfl, hj, hC, fun L1 e1 e2 H10 nL hL m1 m2 s10 => ?_⟩
        refine ⟨L1, rfl, ⟨_, SqL.of hL⟩, for_list (K := K) (a := L1) (xs := [.ref e1, .ref e2]) (fun q σ H11 => ∃ x6 x7 : Option V, σ = [some (.ref a), some (.ref p), some (.int (0 + (i : Int))), some (.ref S), some (.int (j : Int)), some v, x6, x7] ∧ Same H10 H11)
          ⟨x6, x7, rfl, fun _ _ z => z⟩ (fun q σ H11 _ ⟨_, _, _, s11⟩ => s11.seq (SqL.of hL)) ?_ ?_⟩
        · rintro q y σ H11 hq ⟨x6, x7, rfl, s11⟩
          obtain ⟨e, rfl, me⟩ : ∃ e, y = V.ref e ∧ Made H11 C e v := by
            match q, hq with
            | 0, hq =>
              cases hq
              exact ⟨e1, rfl, m1.same s11⟩
            | 1, hq =>
              cases hq
              exact ⟨e2, rfl, m2.same s11⟩
          -- _law_flags(one) != [spot_now == which for spot_now in range(6)]
          refine ⟨_, rfl, e, j, C, v, rfl, hC, me, fun L2 H12 nL2 hL2 s12 => ?_⟩
          refine ⟨6, rfl, by decide, by decide, fun D nD => ?_⟩
          refine lc_range (lo := 0) (n := 6) (fun u H => H = upd H12 D (.lst ((List.range u).map (fun (z : Nat) => V.bl (decide (V.int ((0 : Int) + (z : Int)) = V.int (j : Int))))))) rfl ?_ ?_
          · rintro u H13 hu rfl
            refine ⟨rfl, _, rfl, _, rfl, rfl, _, upd_same, ?_, ?_⟩
            · rw [List.length_map, List.length_range]
              exact small1000 (by omega)
            · rw [upd_upd, List.range_succ, List.map_append]
              rfl
          · rintro H13 rfl
            rw [comp_is hj]
            have s13 : Same H12 (upd H12 D (.lst (flagsOf j))) := fun c o z => by
              rw [upd_ne (ne_of_none z nD)]
              exact z
            refine flags_eq (s13 _ _ hL2) upd_same ⟨false, rfl, iteF ?_⟩
            -- repr(one.value) != repr(held)
            have me13 : Made (upd H12 D (.lst (flagsOf j))) C e v := (me.same s12).same s13
            obtain ⟨d, d1, d2⟩ := id me13
            have vh13 : Held (upd H12 D (.lst (flagsOf j))) v := vh.keep fun c xs z => s13 _ _ (s12 _ _ (s11 _ _ (s10 _ _ z)))
            have lk : List.lookup ("value" : Str) [(("value" : Str), v)] = some v := by simp [List.lookup]
            obtain ⟨z, wz⟩ := vh13.repr (K := K)
            refine ⟨_, rfl, e, C, d, _, v, rfl, T.xC C mC, T.nC C mC, d1, d2, lk, ?_⟩
            dsimp only [tNil]
            refine wz _ _ (fun _ _ z => z) ?_
            refine ⟨_, rfl, ?_⟩
            dsimp only [tNil]
            refine wz _ _ (fun _ _ z => z) ?_
            refine ⟨rfl, _, rfl, ?_⟩
            refine iteNS rfl ?_
            -- isinstance of the two bases
            refine ⟨_, rfl, e, C, d, _, .ref O, _, true, rfl, d1, d2, T.iC C mC, .own O, T.sO C mC, true, rfl, iteF ?_⟩
            refine ⟨_, rfl, e, C, d, _, .ty "ValueError", _, true, rfl, d1, d2, T.iC C mC, .ty "ValueError", T.sV C mC, true, rfl, iteF ?_⟩
            exact ⟨_, _, rfl, fun c o z => s13 _ _ (s12 _ _ (s11 _ _ z))⟩
        · rintro σ H11 ⟨x6, x7, rfl, s11⟩
          have s91 : Same H9 H11 := fun c o z => s11 _ _ (s10 _ _ z)
          exact ⟨_, _, _, _, gs9, l9, t9, rfl, B9.mono s91, by omega, fun c o z => s91 _ _ (s9 _ _ z), s91 _ _ hS9, fun v hv => (held9 v hv).keep fun c xs z => s91 _ _ z⟩
      · rintro σ H8 ⟨x4, x5, x6, x7, gs, l, t', rfl, B8, ht8, s8, hS8, held8⟩
        exact ⟨_, _, _, _, _, _, gs, l, t', rfl, B8, by omega, s8⟩
    · rintro σ H2 ⟨x2, x3, x4, x5, x6, x7, gs, l, t, rfl, B2, ht, s2⟩
      intro e ne
      refine ⟨by show 3 ≤ sizeLine; decide, fun tp ntp => ?_⟩
      have tne : tp ≠ e := fun z => by
        rw [z, upd_same] at ntp
        cases ntp
      refine ⟨e, O, tp, _, _, false, rfl, by rw [upd_ne tne.symm, upd_same], upd_same, T.iO, .cons (.own C0) (.cons (.own C1) (.cons (.own C5) .nil)), T.oT, false, rfl, k _⟩
end
end K01
set_option Elab.async false
set_option linter.all false
set_option maxRecDepth 100000
set_option maxHeartbeats 8000000
namespace K01
open PySem L2 Wk
/-! ### what the top has written -/
/-- a def of the module -/
def DefAt (K : PySem.W.Frag) (x : Str) (st : Stmt) (f : Addr) : Prop := PySem.W.nsIn K mainGlobals x = some (some (.ref f)) ∧
  (∃ (oc : Value) (od : Option Addr) (kV doc pm : Value) (an : Option Addr) (cdv ct : Value) (osl : Array (Option Value)),
    K.lookup f = some ⟨oc, od, .func (PySem.W.fnOf x x (defArgs st) (defBody st) (defScope st) .none kV doc pm an cdv ct), osl⟩ ∧ PySem.W.codeIn K cdv x = true) ∧ PySem.W.keepIn K (.ref f) = true
/-- an error class and its __init__ -/
structure ClsAt (K : PySem.W.Frag) (x q : Str) (st : Stmt) (C fI : Addr) : Prop where
  ns : PySem.W.nsIn K mainGlobals x = some (some (.ref C))
  obj : ∃ nm qn N bs bm sn sub ab col dd k0 k1 k2 k3 k5, K.lookup C = some (excClassObj nm qn C N bs bm true sn sub ab col dd k0 k1 k2 k3 k5 "ValueError.__new__") ∧ PySem.HandSPX.refsVE bm = true
  ini : PySem.W.findIn K (.ref C) "__init__" = some (some (.ref fI))
  ty : PySem.W.typeIn K (.ref fI) = some (.type "function")
  fn : ∃ (oc : Value) (od : Option Addr) (kV doc pm : Value) (an : Option Addr) (cdv ct : Value) (osl : Array (Option Value)),
    K.lookup fI = some ⟨oc, od, .func (PySem.W.fnOf "__init__" q (defArgs st) (defBody st) (defScope st) .none kV doc pm an cdv ct), osl⟩ ∧ PySem.W.codeIn K cdv q = true
  kI : PySem.W.keepIn K (.ref fI) = true
  sa : PySem.W.findIn K (.ref C) "__setattr__" = some (some (.builtin "object.__setattr__"))
  tyC : PySem.W.typeIn K (.ref C) = some (.type "type")
  kC : PySem.W.keepIn K (.ref C) = true
  hd : PySem.W.hasDictIn K C = true
  nv : PySem.W.findIn K (.ref C) "value" = some none
  is : IsC K C
theorem ClsAt.t {K : PySem.W.Frag} {mg : Str → Option Value} {h : Heap} {x q : Str} {st : Stmt} {C fI : Addr} (A : ClsAt K x q st C fI) (X : K.In h) (G : h.Ns mainGlobals mg) : ClsT K mg x C fI where
  g := PySem.W.mg_of X G A.ns
  oex := ⟨A.obj, A.sa, A.is.sub, A.tyC, A.kC⟩
  ini := A.ini
  ty := A.ty
  nov := A.nv
  isc := A.is
  xf := ⟨A.is.ga, A.is.gt, A.is.sub, A.hd⟩
theorem ClsAt.f {P : Program} {w : World} {K : PySem.W.Frag} {mg : Str → Option Value} {h base : Heap} {x q : Str} {st : Stmt} {C fI : Addr} (A : ClsAt K x q st C fI) (X : K.In h) (G : h.Ns mainGlobals mg)
    (S : FnScope ["self", "value"] ["self", "value"] (defScope st)) (hb : ∃ q1 q2 q3 q4, defBody st = [.Assign [.Attribute (.Name "self" q1) "value" q2] (.Name "value" q3) q4])
    (hv : (defScope st).names = ([("self", .local), ("value", .local)] : List (Str × NameKind)))
    (b2 : ∀ (kV doc pm : Value) (an : Option Addr) (cdv ct : Value) (u v : Value), bindArgs (PySem.W.fnOf "__init__" q (defArgs st) (defBody st) (defScope st) .none kV doc pm an cdv ct) ⟨[u, v], []⟩ = pure ([("self", u), ("value", v)] : List (Str × Value)))
    (b1 : ∀ (kV doc pm : Value) (an : Option Addr) (cdv ct : Value) (u v : Value), bindArgs (PySem.W.fnOf "__init__" q (defArgs st) (defBody st) (defScope st) .none kV doc pm an cdv ct) ⟨[u], [("value", v)]⟩ = pure ([("self", u), ("value", v)] : List (Str × Value))) :
    ∃ fd : FuncData, ClsF P w K mg base x C fI fd := by
  obtain ⟨oc, od, kV, doc, pm, an, cdv, ct, osl, l, c⟩ := A.fn
  refine ⟨_, A.t X G, ok_init (fun_mk (st := st) l c A.kI) S hb hv (A.t X G), ⟨?_, fun r z => r.append z⟩, ⟨?_, fun r z => r.append z⟩⟩
  · intro s us ws _ h1 h2
    match us, ws, h1, h2 with
    | [u, v], [], _, _ => exact .of_eq (b2 kV doc pm an cdv ct u v)
  · intro s us ws _ h1 h2
    match us, ws, h1, h2 with
    | [u], [v], _, _ => exact .of_eq (b1 kV doc pm an cdv ct u v)
theorem apart_mk {K : PySem.W.Frag} {cs : List Addr} (nd : cs.Nodup) (h : ∀ C ∈ cs, ∀ D ∈ cs, C ≠ D → PySem.W.kitOne K (.ref C) (.ref D) = some false) : Apart K cs := by
  intro i j C D hi hj
  by_cases e : i = j
  · subst e
    rw [hi] at hj
    cases hj
    rw [decide_eq_true rfl]
    unfold PySem.W.kitOne
    rw [if_pos (beq_self_eq_true _)]
  · rw [decide_eq_false e]
    refine h C (List.mem_of_getElem? hi) D (List.mem_of_getElem? hj) fun z => ?_
    subst z
    obtain ⟨h1, e1⟩ := List.getElem?_eq_some_iff.mp hi
    obtain ⟨h2, e2⟩ := List.getElem?_eq_some_iff.mp hj
    exact e ((List.getElem_inj nd).mp (e1.trans e2.symm))
theorem def_at {K : PySem.W.Frag} {x : Str} {st : Stmt} {f : Addr} {oc : Value} {od : Option Addr} {kV doc pm : Value} {an : Option Addr} {cdv ct : Value} {osl : Array (Option Value)} (a : PySem.W.nsIn K mainGlobals x = some (some (.ref f)))
    (l : K.lookup f = some ⟨oc, od, .func (PySem.W.fnOf x x (defArgs st) (defBody st) (defScope st) .none kV doc pm an cdv ct), osl⟩) (c : PySem.W.codeIn K cdv x = true) (k : PySem.W.keepIn K (.ref f) = true) : DefAt K x st f :=
  ⟨a, ⟨_, _, _, _, _, _, _, _, _, l, c⟩, k⟩
theorem cls_at {K : PySem.W.Frag} {x q : Str} {st : Stmt} {C fI : Addr} {oc : Value} {od : Option Addr} {kV doc pm : Value} {an : Option Addr} {cdv ct : Value} {osl : Array (Option Value)}
    {nm qn : Str} {N : Addr} {bs bm : List Value} {sn : List Str} {sub : List Value} {ab : Bool} {col : Option Bool} {dd : Option Addr} {k0 k1 k2 k3 k5 : Option Value}
    (a : PySem.W.nsIn K mainGlobals x = some (some (.ref C))) (ob : K.lookup C = some (excClassObj nm qn C N bs bm true sn sub ab col dd k0 k1 k2 k3 k5 "ValueError.__new__")) (ve : PySem.HandSPX.refsVE bm = true)
    (ini : PySem.W.findIn K (.ref C) "__init__" = some (some (.ref fI))) (ty : PySem.W.typeIn K (.ref fI) = some (.type "function"))
    (l : K.lookup fI = some ⟨oc, od, .func (PySem.W.fnOf "__init__" q (defArgs st) (defBody st) (defScope st) .none kV doc pm an cdv ct), osl⟩) (co : PySem.W.codeIn K cdv q = true) (kI : PySem.W.keepIn K (.ref fI) = true)
    (sa : PySem.W.findIn K (.ref C) "__setattr__" = some (some (.builtin "object.__setattr__"))) (tyC : PySem.W.typeIn K (.ref C) = some (.type "type")) (kC : PySem.W.keepIn K (.ref C) = true) (hd : PySem.W.hasDictIn K C = true)
    (nv : PySem.W.findIn K (.ref C) "value" = some none) (is : IsC K C) : ClsAt K x q st C fI :=
  ⟨a, ⟨_, _, _, _, _, _, _, _, _, _, _, _, _, _, _, ob, ve⟩, ini, ty, ⟨_, _, _, _, _, _, _, _, _, l, co⟩, kI, sa, tyC, kC, hd, nv, is⟩
theorem all_mk {l : PySem.W.OpenLaw} {w : World} {K : PySem.W.Frag} {h : Heap} {mg : Str → Option Value} {fa fB fD fM fF fL O C0 C1 C2 C3 C4 C5 i0 i1 i2 i3 i4 i5 : Addr} (X : K.In h) (G : h.Ns mainGlobals mg) (hfa : mg "law" = some (.ref fa))
    (aB : DefAt K "_law_bag" sBag fB) (aD : DefAt K "_law_draw" sDraw fD) (aM : DefAt K "_law_made" sMade fM) (aF : DefAt K "_law_flags" sFlags fF) (aL : DefAt K "law" sLaw fL)
    (c0 : ClsAt K "InvalidTable" "InvalidTable.__init__" (inClass (top 2) 0) C0 i0) (c1 : ClsAt K "InvalidNumber" "InvalidNumber.__init__" (inClass (top 3) 0) C1 i1) (c2 : ClsAt K "InvalidWords" "InvalidWords.__init__" (inClass (top 4) 0) C2 i2)
    (c3 : ClsAt K "InvalidRange" "InvalidRange.__init__" (inClass (top 5) 0) C3 i3) (c4 : ClsAt K "NothingToUndo" "NothingToUndo.__init__" (inClass (top 6) 0) C4 i4) (c5 : ClsAt K "Unreadable" "Unreadable.__init__" (inClass (top 7) 0) C5 i5)
    (aO : PySem.W.nsIn K mainGlobals "OrderError" = some (some (.ref O))) (xO : PySem.W.excIn K O [.type "ValueError", .type "Exception", .type "BaseException", .type "object"] "ValueError.__new__" = true) (kO : PySem.W.keepIn K (.ref O) = true) (iO : IsC K O)
    (oT : PySem.W.kitAny K (.ref O) [.ref C0, .ref C1, .ref C5] = some false) (ap : Apart K [C0, C1, C2, C3, C4, C5])
    (sO : ∀ C ∈ [C0, C1, C2, C3, C4, C5], PySem.W.kitOne K (.ref C) (.ref O) = some true) (sV : ∀ C ∈ [C0, C1, C2, C3, C4, C5], PySem.W.kitOne K (.ref C) (.type "ValueError") = some true)
    (z1 : PySem.W.nsIn K mainGlobals "range" = some none) (z2 : PySem.W.nsIn K mainGlobals "min" = some none) (z3 : PySem.W.nsIn K mainGlobals "len" = some none) (z4 : PySem.W.nsIn K mainGlobals "repr" = some none)
    (z5 : PySem.W.nsIn K mainGlobals "isinstance" = some none) (z6 : PySem.W.nsIn K mainGlobals "ValueError" = some none) (z7 : PySem.W.nsIn K mainGlobals "abs" = some none) :
    ∃ fd : FuncData, (∀ (s : Shared) (v : Value), BindsTo s fd ⟨[v], []⟩ [("script", v)]) ∧ ∀ base : Heap, K.In base → base.Ns mainGlobals mg → FnG l.prog w K mg base CX0 4 fa fd ["script"] (spLaw K) := by
  obtain ⟨nB, ⟨_, _, _, _, _, _, _, _, _, lB, cB⟩, kB⟩ := aB
  obtain ⟨nD, ⟨_, _, _, _, _, _, _, _, _, lD, cD⟩, kD⟩ := aD
  obtain ⟨nM, ⟨_, _, _, _, _, _, _, _, _, lM, cM⟩, kM⟩ := aM
  obtain ⟨nF, ⟨_, _, _, _, _, _, _, _, _, lF, cF⟩, kF⟩ := aF
  obtain ⟨nL, ⟨_, _, kV, doc, pm, an, cdv, ct, _, lL, cL⟩, kL⟩ := aL
  cases hfa.symm.trans (PySem.W.mg_of X G nL)
  have TB : TxtB K mg := ⟨PySem.W.mg_none_of X G z7, PySem.W.mg_none_of X G z3⟩
  have FB := fun_mk (st := sBag) lB cB kB
  have FD := fun_mk (st := sDraw) lD cD kD
  have FM := fun_mk (st := sMade) lM cM kM
  have FF := fun_mk (st := sFlags) lF cF kF
  have FL := fun_mk (st := sLaw) lL cL kL
  refine ⟨PySem.W.fnOf "law" "law" (defArgs sLaw) (defBody sLaw) (defScope sLaw) .none kV doc pm an cdv ct, fun s v => .of_eq rfl, fun base _ _ => ?_⟩
  have sc : ∀ j ∈ [2, 3, 4, 5, 6, 7], FnScope ["self", "value"] ["self", "value"] (defScope (inClass (top j) 0)) := by
    intro j hj
    simp only [List.mem_cons, List.not_mem_nil, or_false] at hj
    rcases hj with rfl | rfl | rfl | rfl | rfl | rfl <;> exact ⟨rfl, rfl, rfl, by decide +kernel, rfl, by decide +kernel, by decide +kernel⟩
  obtain ⟨_, F0⟩ := c0.f (P := l.prog) (w := w) (base := base) X G (sc 2 (by decide)) ⟨_, _, _, _, rfl⟩ rfl (fun _ _ _ _ _ _ _ _ => rfl) (fun _ _ _ _ _ _ _ _ => rfl)
  obtain ⟨_, F1⟩ := c1.f (P := l.prog) (w := w) (base := base) X G (sc 3 (by decide)) ⟨_, _, _, _, rfl⟩ rfl (fun _ _ _ _ _ _ _ _ => rfl) (fun _ _ _ _ _ _ _ _ => rfl)
  obtain ⟨_, F2⟩ := c2.f (P := l.prog) (w := w) (base := base) X G (sc 4 (by decide)) ⟨_, _, _, _, rfl⟩ rfl (fun _ _ _ _ _ _ _ _ => rfl) (fun _ _ _ _ _ _ _ _ => rfl)
  obtain ⟨_, F3⟩ := c3.f (P := l.prog) (w := w) (base := base) X G (sc 5 (by decide)) ⟨_, _, _, _, rfl⟩ rfl (fun _ _ _ _ _ _ _ _ => rfl) (fun _ _ _ _ _ _ _ _ => rfl)
  obtain ⟨_, F4⟩ := c4.f (P := l.prog) (w := w) (base := base) X G (sc 6 (by decide)) ⟨_, _, _, _, rfl⟩ rfl (fun _ _ _ _ _ _ _ _ => rfl) (fun _ _ _ _ _ _ _ _ => rfl)
  obtain ⟨_, F5⟩ := c5.f (P := l.prog) (w := w) (base := base) X G (sc 7 (by decide)) ⟨_, _, _, _, rfl⟩ rfl (fun _ _ _ _ _ _ _ _ => rfl) (fun _ _ _ _ _ _ _ _ => rfl)
  have each : ∀ {p : Addr → Prop}, p C0 → p C1 → p C2 → p C3 → p C4 → p C5 → ∀ C ∈ [C0, C1, C2, C3, C4, C5], p C := by
    intro p h0 h1 h2 h3 h4 h5 C hC
    simp only [List.mem_cons, List.not_mem_nil, or_false] at hC
    rcases hC with rfl | rfl | rfl | rfl | rfl | rfl <;> assumption
  refine ok_law FL ⟨ok_bag FB TB, PySem.W.mg_of X G nB, kB, FB.binds (ps := ["script"]) fun _ _ _ _ _ _ us hl => match us, hl with | [_], _ => rfl⟩
    ⟨ok_draw FD TB, PySem.W.mg_of X G nD, kD, FD.binds (ps := ["bag", "many"]) fun _ _ _ _ _ _ us hl => match us, hl with | [_, _], _ => rfl⟩
    ⟨ok_made FM F0 F1 F2 F3 F4 F5, PySem.W.mg_of X G nM, kM, FM.binds (ps := ["which", "held"]) fun _ _ _ _ _ _ us hl => match us, hl with | [_, _], _ => rfl⟩
    ⟨ok_flags FF (PySem.W.mg_none_of X G z5) F0.t.g F1.t.g F2.t.g F3.t.g F4.t.g F5.t.g (each c0.is c1.is c2.is c3.is c4.is c5.is) ap, PySem.W.mg_of X G nF, kF, FF.binds (ps := ["one"]) fun _ _ _ _ _ _ us hl => match us, hl with | [_], _ => rfl⟩
    ⟨PySem.W.mg_none_of X G z1, PySem.W.mg_none_of X G z2, PySem.W.mg_none_of X G z3, PySem.W.mg_none_of X G z4, PySem.W.mg_none_of X G z5, PySem.W.mg_none_of X G z6, PySem.W.mg_of X G aO, F0.t.g, F1.t.g, F5.t.g, xO, kO, iO, oT,
      each c0.is c1.is c2.is c3.is c4.is c5.is, each F0.t.xf F1.t.xf F2.t.xf F3.t.xf F4.t.xf F5.t.xf, each c0.nv c1.nv c2.nv c3.nv c4.nv c5.nv, sO, sV⟩
theorem walk {l : PySem.W.OpenLaw} {q : Program} {loose : List Str} {XP : (Str → Option Value) → Heap → Prop} {YP : World → Heap → Prop} {d : DefRec} {K : Params → PySem.W.Frag} (hn : l.most = some 63) (hdf : d.params.defaults = [])
    (hY : ∀ (w : World) (h : Heap), YP w h → (K w.params).In h)
    (F : ∀ (w : World) (mg : Str → Option Value) (fa : Addr) (h : Heap), (K w.params).In h → h.Ns mainGlobals mg → mg d.name = some (.ref fa) →
      ∃ fd : FuncData, (∀ (s : Shared) (u : Value), BindsTo s fd ⟨[u], []⟩ [("script", u)]) ∧ ∀ base : Heap, (K w.params).In base → base.Ns mainGlobals mg → FnG l.prog w (K w.params) mg base CX0 4 fa fd ["script"] (spLaw (K w.params))) :
    PySem.W.WalkO q loose XP YP l.row.toRowW d [] (fun f vs => PySem.call f vs) :=
  walkG (n := 63) (k := 4) (x := "script") (CX := fun _ => CX0) (sp := fun w => spLaw (K w.params)) hn (by decide) hdf ⟨rfl, by decide, by decide⟩ hY F (fun _ _ a ns hl _ hS => ⟨a, ns, rfl, hS, hl, fun _ => rfl⟩) fun _ _ _ _ _ z => z
end K01
set_option Elab.async false
open PySem PySem.W PyProof.Rows
set_option maxRecDepth 100000 in
set_option maxHeartbeats 0 in
theorem PySem.Challenge.cw_wordorder_k01_errors_and_their_values_holds : PySem.Challenge.rw_wordorder_k01_errors_and_their_values.Holds := by
  w_on; o_law; k_head; (case hw => w_witness2)
  k_fill
  refine K01.walk (l := PySem.Challenge.rw_wordorder_k01_errors_and_their_values) rfl rfl (fun w h Y => PySem.W.kIn_of Y) ?F
  case F =>
    intro w mg fa h KX G hmg
    refine' K01.all_mk KX G hmg ?aB ?aD ?aM ?aF ?aL ?c0 ?c1 ?c2 ?c3 ?c4 ?c5 ?aO ?xO ?kO ?iO ?oT ?ap ?sO ?sV ?z1 ?z2 ?z3 ?z4 ?z5 ?z6 ?z7
    case aB => refine' K01.def_at ?a ?l ?c ?k; (case a => k_is); (case l => k_is); (case c => k_is); (case k => k_is)
    case aD => refine' K01.def_at ?a ?l ?c ?k; (case a => k_is); (case l => k_is); (case c => k_is); (case k => k_is)
    case aM => refine' K01.def_at ?a ?l ?c ?k; (case a => k_is); (case l => k_is); (case c => k_is); (case k => k_is)
    case aF => refine' K01.def_at ?a ?l ?c ?k; (case a => k_is); (case l => k_is); (case c => k_is); (case k => k_is)
    case aL => refine' K01.def_at ?a ?l ?c ?k; (case a => k_is); (case l => k_is); (case c => k_is); (case k => k_is)
    case aO => k_is
    case xO => k_exc
    case kO => k_is
    case z1 => k_is
    case z2 => k_is
    case z3 => k_is
    case z4 => k_is
    case z5 => k_is
    case z6 => k_is
    case z7 => k_is
    case iO => refine' ⟨?_, ?_, ?_, ?_, ?_, ?_, ?_, ?_⟩; (show PySem.W.isClsIn _ _ = true; k_is); all_goals k_is
    case c0 =>
      refine' K01.cls_at ?ns ?ob ?ve ?ini ?ty ?fn ?co ?kI ?sa ?tyC ?kC ?hd ?nv ?is
      case ns => k_is
      case ob => k_is
      case ve => decide +kernel
      case ini => k_is
      case ty => k_is
      case fn => k_is
      case co => k_is
      case kI => k_is
      case sa => k_is
      case tyC => k_is
      case kC => k_is
      case hd => k_is
      case nv => k_is
      case is => refine' ⟨?_, ?_, ?_, ?_, ?_, ?_, ?_, ?_⟩; (show PySem.W.isClsIn _ _ = true; k_is); all_goals k_is
    case c1 =>
      refine' K01.cls_at ?ns ?ob ?ve ?ini ?ty ?fn ?co ?kI ?sa ?tyC ?kC ?hd ?nv ?is
      case ns => k_is
      case ob => k_is
      case ve => decide +kernel
      case ini => k_is
      case ty => k_is
      case fn => k_is
      case co => k_is
      case kI => k_is
      case sa => k_is
      case tyC => k_is
      case kC => k_is
      case hd => k_is
      case nv => k_is
      case is => refine' ⟨?_, ?_, ?_, ?_, ?_, ?_, ?_, ?_⟩; (show PySem.W.isClsIn _ _ = true; k_is); all_goals k_is
    case c2 =>
      refine' K01.cls_at ?ns ?ob ?ve ?ini ?ty ?fn ?co ?kI ?sa ?tyC ?kC ?hd ?nv ?is
      case ns => k_is
      case ob => k_is
      case ve => decide +kernel
      case ini => k_is
      case ty => k_is
      case fn => k_is
      case co => k_is
      case kI => k_is
      case sa => k_is
      case tyC => k_is
      case kC => k_is
      case hd => k_is
      case nv => k_is
      case is => refine' ⟨?_, ?_, ?_, ?_, ?_, ?_, ?_, ?_⟩; (show PySem.W.isClsIn _ _ = true; k_is); all_goals k_is
    case c3 =>
      refine' K01.cls_at ?ns ?ob ?ve ?ini ?ty ?fn ?co ?kI ?sa ?tyC ?kC ?hd ?nv ?is
      case ns => k_is
      case ob => k_is
      case ve => decide +kernel
      case ini => k_is
      case ty => k_is
      case fn => k_is
      case co => k_is
      case kI => k_is
      case sa => k_is
      case tyC => k_is
      case kC => k_is
      case hd => k_is
      case nv => k_is
      case is => refine' ⟨?_, ?_, ?_, ?_, ?_, ?_, ?_, ?_⟩; (show PySem.W.isClsIn _ _ = true; k_is); all_goals k_is
    case c4 =>
      refine' K01.cls_at ?ns ?ob ?ve ?ini ?ty ?fn ?co ?kI ?sa ?tyC ?kC ?hd ?nv ?is
      case ns => k_is
      case ob => k_is
      case ve => decide +kernel
      case ini => k_is
      case ty => k_is
      case fn => k_is
      case co => k_is
      case kI => k_is
      case sa => k_is
      case tyC => k_is
      case kC => k_is
      case hd => k_is
      case nv => k_is
      case is => refine' ⟨?_, ?_, ?_, ?_, ?_, ?_, ?_, ?_⟩; (show PySem.W.isClsIn _ _ = true; k_is); all_goals k_is
    case c5 =>
      refine' K01.cls_at ?ns ?ob ?ve ?ini ?ty ?fn ?co ?kI ?sa ?tyC ?kC ?hd ?nv ?is
      case ns => k_is
      case ob => k_is
      case ve => decide +kernel
      case ini => k_is
      case ty => k_is
      case fn => k_is
      case co => k_is
      case kI => k_is
      case sa => k_is
      case tyC => k_is
      case kC => k_is
      case hd => k_is
      case nv => k_is
      case is => refine' ⟨?_, ?_, ?_, ?_, ?_, ?_, ?_, ?_⟩; (show PySem.W.isClsIn _ _ = true; k_is); all_goals k_is
    case oT => first | kit_is | decide +kernel
    case sO =>
      intro C hC
      simp only [List.mem_cons, List.not_mem_nil, or_false] at hC
      rcases hC with rfl | rfl | rfl | rfl | rfl | rfl <;> kit_is
    case sV =>
      intro C hC
      simp only [List.mem_cons, List.not_mem_nil, or_false] at hC
      rcases hC with rfl | rfl | rfl | rfl | rfl | rfl <;> kit_is
    case ap =>
      refine K01.apart_mk (by decide) ?_
      intro C hC D hD ne
      simp only [List.mem_cons, List.not_mem_nil, or_false] at hC hD
      rcases hC with rfl | rfl | rfl | rfl | rfl | rfl <;> rcases hD with rfl | rfl | rfl | rfl | rfl | rfl <;> first | exact absurd rfl ne | kit_is
