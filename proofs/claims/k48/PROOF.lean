import PyProof.Rows.All
import Wide.All
import OpenK.AllK
import Wide.FinOn
import PyProof.EqAt
import PyProof.EqKinds
import PyProof.TupleCall
import KE.KExcIs
import HandS.ForMost
import HandS.ForExc
import HandS.ExcInit
import HandS.ExcValue
import HandS.ExcField
import HandS.IsInst
import HandS.Defaults
import HandS.Wide
import HandS.StrMore
import HandS.MapJoin
import HandS.Text
import HandS.Star
import HandS.Walk
import HandS.SortOrd
import HandS.SortRule
import HandS.DictTup
import HandS.SetTxt0
import HandS.Set
import HandS.SetFor
import HandS.Strs
import HandS.SortInts
import PyProof.Rows.SortShellAny
import HandS.List
import HandS.TryOnly
import HandS.RevRange
import HandS.DictComp
import HandS.CallSlots
import HandS.DeepEq
import KE.DataCmp
import HandS.ExcOwn
import HandS.HotCalls
import HandS.Property
import HandS.Style
import HandS.Conv
import PyProof.LongRange
import HandS.Iter
import PyProof.SetRoads
import KE.DataMinMax
import HandS.Call
import HandS.GenList
import PyProof.ListTruth
import PySem.Challenge.RW_wordorder_k48_whole_orders_and_places
set_option Elab.async false
set_option linter.all false
set_option maxRecDepth 100000
set_option maxHeartbeats 4000000
/-! A layer of our own over the hand layer: defs that call repr (no repr under way: FnG), repr of data, exceptions with an own __init__ as values. -/
namespace Wk
open PySem PySem.Spec PyProof.Rows L2

/-! ### defs under which no repr is under way -/
/-- the promise of a def, asked only where no repr is under way -/
structure FnG (P : Program) (w : World) (K : PySem.W.Frag) (mg : Str → Option Value) (base : Heap) (CX : CXT)
    (k : Nat) (f : Addr) (fd : FuncData) (ps : List Str) (sp : Sp) : Prop where
  args : ∀ vs H Q E, sp vs H Q E → vs.length = ps.length
  go : ∀ (A : Around) (out : List Env) (s : Shared) (H : Hp) (ar : Args) (us : List Value) (vs : List V) (Q : VK) (E : XK),
    A.guards = some [] → Room k A → Env0 P w K mg base A out s H → BindsTo s fd ar (ps.zip us) → Vals vs us →
    sp vs H Q E → codeAny (model P w) A (.call (.ref f) ar) (CR CX out P w H s Q E) s

section
variable {P : Program} {w : World} {K : PySem.W.Frag} {mg : Str → Option Value} {base : Heap} {CX : CXT}
variable {k : Nat} {f : Addr} {fd : FuncData} {ps : List Str} {sp : Sp}

theorem FnG.of (F : FnOk P w K mg base CX k f fd ps sp) : FnG P w K mg base CX k f fd ps sp :=
  ⟨F.len, fun A out s H ar us vs Q E _ r e b v q => F.run A out s H ar us vs Q E r e b v q⟩

/-- a def by its body -/
theorem fnG_of {name qual : Str} {params : Arguments} {body : List Stmt} {scope : Scope} {dV kV doc pm cdv ct oc : Value} {an od : Option Addr}
    {osl : Array (Option Value)} {N : List Str}
    (lk : K.lookup f = some ⟨oc, od, .func (PySem.W.fnOf name qual params body scope dV kV doc pm an cdv ct), osl⟩)
    (code : PySem.W.codeIn K cdv qual = true) (S : FnScope N ps scope) (args : ∀ vs H Q E, sp vs H Q E → vs.length = ps.length)
    (hb : ∀ (A : Around) (out : List Env) (s : Shared) (H : Hp) (vs : List V) (Q : VK) (E : XK), A.guards = some [] →
      Room k (A.deeper (envOfC qual scope s.heap.objs.size f cdv)) → sp vs H Q E →
      ∃ t, PSs (cxOf CX P w K mg base N qual scope f cdv A out s H E) body t ∧ t { nx := fun _ H' => Q .non H', rt := Q } (start N vs) H) :
    FnG P w K mg base CX (k + 1) f (PySem.W.fnOf name qual params body scope dV kV doc pm an cdv ct) ps sp := by
  refine ⟨args, ?_⟩
  intro A out s H ar us vs Q E gd room e0 bt rv want
  have nargs := args vs H Q E want
  have inK : K.In s.heap := e0.mod.kin.keeps (fun b o z => (e0.bs b o z).1)
  have noL : s.heap.NoLimit := e0.mod.nolimit.keeps (fun b o z => (e0.bs b o z).1)
  have kinds : ∀ y ∈ ps.zip us, scope.names.lookup y.1 = some .local ∨
      (scope.names.lookup y.1 = some .cell ∧ ((cellsFrom (s.heap.objs.size + 1) scope.names []).lookup y.1).isSome = true) := by
    intro y hy
    have hm := (List.of_mem_zip (show (y.1, y.2) ∈ ps.zip us from hy)).1
    cases S.par y.1 hm with
    | inl q => exact Or.inl q
    | inr q => exact Or.inr ⟨q, PySem.W.cellsFrom_some _ _ _ (Or.inl q)⟩
  refine codeAny_call_function room.depth (inK _ _ lk) rfl S.co S.gen rfl (PySem.W.codeRec_of inK code) (bt _ _ _ _ ?_)
  refine wpAny_newFunctionEnv_cells S.kind kinds fun env he s1 x => ?_
  cases he
  refine ⟨noL.keeps x.toInCall.keep, codeAny_func ?_⟩
  obtain ⟨t, ht, hq⟩ := hb A out s H vs Q E gd (room.deeper _) want
  have I := inv_start (CX := CX) (P := P) (w := w) (K := K) (mg := mg) (base := base) (E := E) S room.hd e0 nargs rv x
  refine wpAny_mono (ht.run [] s1 (start N vs) H _ I hq) ?_ (fun _ _ z => z)
  intro fl s' hs
  cases fl with
  | ret u =>
    obtain ⟨v, σ', H', J, r', q⟩ := hs
    exact ⟨v, H', J.os, J.bare, J.base, J.hok, r', q⟩
  | next =>
    obtain ⟨σ', H', J, q⟩ := hs
    exact ⟨V.non, H', J.os, J.bare, J.base, J.hok, rfl, q⟩
  | brk => obtain ⟨_, _, _, q⟩ := hs; exact q.elim
  | cont => obtain ⟨_, _, _, q⟩ := hs; exact q.elim
end

/-- the short word for it: nothing leaves the def -/
theorem okG {P : Program} {w : World} {K : PySem.W.Frag} {mg : Str → Option Value} {base : Heap} {x qual : Str} {st : Stmt} {f : Addr} {fd : FuncData}
    {N ps : List Str} {k : Nat} {sp : Sp} (F : Fun K x qual st f fd) (S : FnScope N ps (defScope st)) (args : ∀ vs H Q E, sp vs H Q E → vs.length = ps.length)
    (hb : ∀ (cdv : Value) (A : Around) (out : List Env) (s : Shared) (H : Hp) (vs : List V) (Q : VK) (E : XK), A.guards = some [] →
      Room k (A.deeper (envOfC qual (defScope st) s.heap.objs.size f cdv)) → sp vs H Q E →
      ∃ t, PSs (cxOf CX0 P w K mg base N qual (defScope st) f cdv A out s H E).nox (defBody st) t ∧ t { nx := fun _ H' => Q .non H', rt := Q } (start N vs) H) :
    FnG P w K mg base CX0 (k + 1) f fd ps sp := by
  obtain ⟨oc, od, kV, doc, pm, an, cdv, ct, osl, rfl, lk, code⟩ := F.ex
  refine fnG_of lk code S args ?_
  intro A out s H vs Q E gd room want
  obtain ⟨t, h, q⟩ := hb cdv A out s H vs Q E gd room want
  exact ⟨t, h.nox, q⟩

section
variable {X : Cx} {CX : CXT} {k : Nat} {f : Addr} {fd : FuncData} {ps : List Str} {sp : Sp} {dvs : List V} {ds : List Value} {E : XK}
/-- f(e, ..) of such a def -/
theorem pe_callG {x : Str} {p pos : Pos} {e : Expr} {es : List Expr} {t : TA} (F : FnG X.prog X.w X.K X.mg X.base CX k f fd ps sp) (gd : X.A.guards = some []) (hr : Room k X.A)
    (hg : Gl X x) (hm : X.mg x = some (.ref f)) (hk : PySem.W.keepIn X.K (.ref f) = true) (hb : Binds X.K fd ps ds) (hd : Vals dvs ds) (hx : Passes CX X E) (ha : PA X (e :: es) t)
    (hdb : (x == ("__debug__" : Str)) = false := by decide) (he : starEach (e :: es) X.env = (false, eval e X.env) :: starEach es X.env := by rfl)
    (hpl : (backTo pos (starEach es X.env)).any (·.1) = false := by rfl) :
    PE X (.Call (.Name x p) (e :: es) [] pos) (tCall sp dvs E t) := by
  constructor
  intro pins s σ H Q I h
  refine wpAny_Call_Name_kw (ld_glob I hg hm ?_ hdb)
  refine PySem.W.callWith_K (h₀ := X.base) I.ok.mod.kin hk (thn (ha.run pos pins s σ H _ I h) ?_) he hpl
  rintro us s1 ⟨vs, H1, I1, r, q⟩
  refine ⟨I1.kIn, ?_⟩
  have r2 : Vals (vs ++ dvs) (us ++ ds) := r.append hd
  have hl : (us ++ ds).length = ps.length := r2.length.symm.trans (F.args _ _ _ _ q)
  refine wpAny_call (codeAny_mono (F.go X.A X.stack s1 H1 ⟨us, []⟩ (us ++ ds) (vs ++ dvs) Q E gd hr I1.env0 (hb s1 us I1.kIn hl) r2 q) ?_)
  intro r s' hq
  match r, hq with
  | .error e, hq => exact hx pins σ H1 s1 e s' I1 hq
  | .ok (.ret u), hq => exact I1.after hq
end

/-- the law's own call -/
theorem law_callG {P : Program} {w : World} {K : PySem.W.Frag} {mg mb : Str → Option Value} {CX : CXT} {k : Nat} {fa a : Addr} {fd : FuncData} {x : Str} {sp : Sp} {s1 : Shared} {vs : List Value} {ns : List Int}
    (KX : K.In s1.heap) (hns : s1.heap.Ns mainGlobals mg) (hb : s1.heap.Ns builtinsNs mb) (hbb : ∀ x : Str, x ≠ "__name__" → mb x = bootBuiltins x) (hlim : s1.heap.NoLimit) (hg : s1.gens = #[])
    (ha : s1.heap.get? a = some { cls := .type "list", data := .seq vs.toArray }) (hi : IntsAre vs ns) (hl : ns.length ≤ sizeLine) (hr : Room k callerA)
    (F : ∀ base : Heap, K.In base → base.Ns mainGlobals mg → FnG P w K mg base CX k fa fd [x] sp) (hbind : ∀ (s : Shared) (u : Value), BindsTo s fd ⟨[u], []⟩ [(x, u)])
    (hsp : ∀ H : Hp, Only H → SqL K H a (ns.map V.int) → sp [.ref a] H (fun v _ => v = .bl true) fun _ _ _ => False)
    (hCX : ∀ H e s', CX [] H s1 (fun _ _ _ => False) e s' → False) :
    codeAny (model P w) callerA (.call (.ref fa) ⟨[.ref a], []⟩) (fun r s' => r = .ok (.ret (.bool true)) ∧ OldK s1.heap s'.heap ∧ s'.os = s1.os ∧ AllBare s'.gens) s1 := by
  -- the promise at this one state, as a promise of any surroundings: the run is asked at callerA alone
  have rv := vals_ints hi
  have lenV := hi.length
  have main : ∀ H : Hp, Only H → SqL K H a (ns.map V.int) → HOk P w H s1.heap → (∀ b, H b ≠ none → b = a) → (H a ≠ none → K.lookup a = none) →
      codeAny (model P w) callerA (.call (.ref fa) ⟨[.ref a], []⟩) (fun r s' => r = .ok (.ret (.bool true)) ∧ OldK s1.heap s'.heap ∧ s'.os = s1.os ∧ AllBare s'.gens) s1 := by
    intro H only sq ok atA notK
    have freeDict : ∀ {b : Addr} {o : Obj} {es : Array DictEntry} {ep : Nat}, s1.heap.get? b = some o → o.data = .dict es ep → H b = none := by
      intro b o es ep e d
      cases q : H b with
      | none => rfl
      | some u =>
        have e' := atA b (by rw [q]; exact fun z => nomatch z)
        subst e'
        rw [ha] at e
        cases e
        cases d
    have nsIn : ∀ {b : Addr} {m : Str → Option Value}, s1.heap.Ns b m → (hidT s1.heap H).Ns b m := by
      rintro b m ⟨o, es, ep, e, d, r⟩
      exact ⟨o, es, ep, hidT_get e (freeDict e d), d, r⟩
    have inB : K.In (hidT s1.heap H) := by
      intro b o e
      refine hidT_get (KX b o e) ?_
      cases q : H b with
      | none => rfl
      | some u =>
        have e' := atA b (by rw [q]; exact fun z => nomatch z)
        subst e'
        have z := notK (by rw [q]; exact fun z => nomatch z)
        rw [z] at e
        cases e
    have limB : (hidT s1.heap H).NoLimit := by
      obtain ⟨mc, h1, h2⟩ := hlim
      exact ⟨mc, nsIn h1, h2⟩
    have md : Mod K mg (hidT s1.heap H) := ⟨inB, nsIn hns, ⟨mb, nsIn hb, hbb⟩, limB⟩
    have e0 : Env0 P w K mg (hidT s1.heap H) callerA [] s1 H :=
      ⟨rfl, md, fun b o e => of_hidT e, Nat.le_of_eq (hidT_size _ _), trivial, fun b hb => (List.not_mem_nil (show b ∈ ([] : List Addr) from hb)).elim, ok, .of_eq hg⟩
    refine codeAny_mono ((F _ inB (nsIn hns)).go callerA [] s1 H ⟨[.ref a], []⟩ [.ref a] [.ref a] _ _ rfl hr e0 (hbind s1 (.ref a)) (.cons rfl .nil) (hsp H only sq)) ?_
    intro r s' h
    match r, h with
    | .error e, h => exact (hCX H e s' h).elim
    | .ok (.ret u), h =>
      obtain ⟨v, H', os, bare, un, ok', r', q⟩ := h
      cases (show v = .bl true from q)
      cases (show u = Value.bool true from r')
      refine ⟨rfl, OldK.of_keep ?_, os, bare⟩
      intro b o e
      cases q : H b with
      | none => exact un.keep b o e q (fun z => List.not_mem_nil (show b ∈ ([] : List Addr) from z)) (fun z => List.not_mem_nil z)
      | some u =>
        rcases only b with z | ⟨ob, xs, z⟩
        · rw [q] at z
          cases z
        · obtain ⟨e1, _⟩ := ok b _ z
          obtain ⟨e2, _⟩ := ok' b _ (un.frzs b ob _ z)
          rw [e] at e1
          cases e1
          exact e2
  cases hk : K.lookup a with
  | some o =>
    have e := KX a o hk
    rw [ha] at e
    cases e
    refine main (fun _ => none) (fun _ => .inl rfl) ?_ (fun b u z => nomatch (show (none : Option HO) = some u from z)) (fun b z => absurd rfl z) (fun z => absurd rfl z)
    exact .inr ⟨_, vs.toArray, _, hk, rfl, rfl, rfl, by rw [List.size_toArray, lenV]; exact hl, by simpa using rv⟩
  | none =>
    let o0 : Obj := { cls := .type "list", data := .seq vs.toArray }
    refine main (fun b => if b = a then some (.frz o0 (.lst (ns.map V.int))) else none) ?_ ?_ ?_ ?_ (fun _ => hk)
    · intro b
      by_cases hb : b = a
      · exact .inr ⟨_, _, if_pos hb⟩
      · exact .inl (if_neg hb)
    · exact .inl (.inr ⟨o0, if_pos rfl⟩)
    · intro b u z
      by_cases hb : b = a
      · cases (if_pos hb).symm.trans z
        subst hb
        exact ⟨ha, by rw [List.length_map]; exact hl, vs, _, rv, ha⟩
      · cases (if_neg hb).symm.trans z
    · intro b z
      by_cases hb : b = a
      · exact hb
      · exact absurd (if_neg hb) z

/-- a statement, and what is known behind it on all its ways; then the rest, once -/
def tMid (t u : TS) : TS := fun D σ H => ∃ M : L2.St → Hp → Prop, t { D with nx := M } σ H ∧ ∀ τ G, M τ G → u D τ G
theorem pss_mid {X : Cx} {st : Stmt} {more : List Stmt} {t u : TS} (a : PS X st t) (b : PSs X more u) : PSs X (st :: more) (tMid t u) := by
  constructor
  intro pins s σ H D I h
  obtain ⟨M, h1, h2⟩ := h
  refine wpAny_execs_cons (thn (a.run pins s σ H { D with nx := M } I h1) ?_)
  intro fl s1 q
  match fl, q with
  | .next, ⟨τ, G, J, q⟩ => exact b.run pins s1 τ G D J (h2 τ G q)
  | .ret _, q => exact q
  | .brk, q => exact q
  | .cont, q => exact q

/-- the end of a law whose def is such a one -/
theorem walkG {l : PySem.W.OpenLaw} {n k : Nat} {q : Program} {loose : List Str} {XP : (Str → Option Value) → Heap → Prop} {YP : World → Heap → Prop} {d : DefRec} {K : Params → PySem.W.Frag} {CX : World → CXT} {sp : World → Sp} {x : Str}
    (hn : l.most = some n) (hn2 : n ≤ sizeLine) (hdf : d.params.defaults = []) (hr : Room k callerA)
    (hY : ∀ (w : World) (h : Heap), YP w h → (K w.params).In h)
    (F : ∀ (w : World) (mg : Str → Option Value) (fa : Addr) (h : Heap), (K w.params).In h → h.Ns mainGlobals mg → mg d.name = some (.ref fa) →
      ∃ fd : FuncData, (∀ (s : Shared) (u : Value), BindsTo s fd ⟨[u], []⟩ [(x, u)]) ∧
        ∀ base : Heap, (K w.params).In base → base.Ns mainGlobals mg → FnG l.prog w (K w.params) mg base (CX w) k fa fd [x] (sp w))
    (hsp : ∀ (w : World) (H : Hp) (a : Addr) (ns : List Int), ns.length ≤ n → Only H → SqL (K w.params) H a (ns.map V.int) → sp w [.ref a] H (fun v _ => v = .bl true) fun _ _ _ => False)
    (hCX : ∀ (w : World) (H : Hp) (s : Shared) (e : Value) (s' : Shared), CX w [] H s (fun _ _ _ => False) e s' → False) :
    PySem.W.WalkO q loose XP YP l.row.toRowW d [] (fun f vs => PySem.call f vs) := by
  refine Att.attach_call hn hdf ?_
  intro w s₀ s₁ mg mb fa o pm cd doc a vs ns G Y ho hd hcd hmg hobj hints hlen hg
  have KX := hY w _ Y
  obtain ⟨fd, hb, hF⟩ := F w mg fa _ KX G.T.g hmg
  exact law_callG KX G.T.g G.T.b G.T.builtins G.T.nolimit hg hobj hints (Nat.le_trans hlen hn2) hr hF hb (fun H hO hS => hsp w H a ns hlen hO hS) (fun H e s' => hCX w H s₁ e s')

end Wk
set_option Elab.async false
set_option linter.all false
set_option maxRecDepth 100000
set_option maxHeartbeats 4000000
/-! Exceptions of own classes with an own __init__, as values: made with positional and keyword arguments, asked by isinstance, their fields read; repr of data. -/
namespace WkE
open PySem PySem.Spec PyProof.Rows PySem.HandSPX
section
variable {prog : Program} {w : World} {A : Around} {E : Value → Shared → Prop} {R : Result → Shared → Prop} {h : Heap} {g : Array GenState} {d : Drawn} {t : Nat} {os : OsState}
variable {nm q : Str} {C N : Addr} {bs bm bmB : List Value} {hdct : Bool} {sn : List Str} {sub : List Value} {ab : Bool} {col : Option Bool} {dd : Option Addr} {k0 k1 k2 k3 k5 : Option Value} {B newId initId : String}
variable {rest : List Value} {kw : List (Str × Value)} {fI : Addr}

theorem newCheck {Q : Unit → Shared → Prop} (F : ExcBaseFacts B newId initId bmB) (hT : ∀ X : String, bm.contains (.type X) = bmB.contains (.type X))
    (hC : h.get? C = some (excClassObj nm q C N bs bm hdct sn sub ab col dd k0 k1 k2 k3 k5 newId)) (fin : Q () ⟨h, g, d, t, os⟩) :
    wpAny (model prog w) A (checkBuiltinCall newId ⟨.ref C :: rest, kw⟩) Q E ⟨h, g, d, t, os⟩ := by
  have inB : (Value.ref C :: bm).contains (.type B) = true := by
    rw [List.contains_cons, hT, F.hasB]
    exact Bool.or_true _
  have star := F.noStar
  simp only [checkBuiltinCall, F.newKind, F.newSplit, F.newRow]
  repeat (first
    | refine wpAny_loadPart_at hC ?_
    | (refine wpAny_isSubtype_exc hC ?_; rw [inB])
    | refine wpAny_staticBase_exc hC ?_
    | refine wpAny_madeBy_exc hC ?_
    | simp only [bne_self_eq_false, Bool.false_eq_true, if_false]
    | wp_step)
  exact fin

theorem newRun (F : ExcBaseFacts B newId initId bmB) (hT : ∀ X : String, bm.contains (.type X) = bmB.contains (.type X))
    (hC : h.get? C = some (excClassObj nm q C N bs bm hdct sn sub ab col dd k0 k1 k2 k3 k5 newId))
    (fin : R (.ok (.ret (.ref (h.objs.size + 1)))) ⟨(h.push (W.kdv_tup rest)).push (excO C h.objs.size), g, d, t, os⟩) (few : rest.length ≤ sizeLine) :
    codeAny (model prog w) A (.builtin newId ⟨.ref C :: rest, kw⟩) R ⟨h, g, d, t, os⟩ := by
  have ends := F.ends
  have inB : (Value.ref C :: bm).contains (.type B) = true := by
    rw [List.contains_cons, hT, F.hasB]
    exact Bool.or_true _
  have noA : (Value.ref C :: bm).contains (.type "AttributeError") = false := by
    rw [List.contains_cons, hT, F.noAttr]
    rfl
  have noN : (Value.ref C :: bm).contains (.type "NameError") = false := by
    rw [List.contains_cons, hT, F.noName]
    rfl
  refine PySem.codeAny_builtinAt F.entry ?_
  unfold Builtin.«BaseException.__new__»
  refine PySem.wpAt_bind ?_
  show PySem.wpAt _ _ _ (stack >>= _) _ _ _
  refine PySem.wpAt_bind (PySem.wpAt_stack fun p below => PySem.wpAt_of_wpAny ?_)
  wp_walk
  refine PySem.wpAt_of_wpAny ?_
  rw [F.owner]
  repeat (first
    | with_reducible refine wpAny_madeHere_exc F.canon hC ?_
    | with_reducible refine wpAny_loadPart_at hC ?_
    | (with_reducible refine wpAny_isSubtype_exc hC ?_; first | rw [inB] | rw [noA] | rw [noN])
    | wp_step)
  show R _ _
  rw [Heap.size_push]
  exact fin

theorem typeCall {Q : Fin → Shared → Prop} (F : ExcBaseFacts B newId initId bmB) (hT : ∀ X : String, bm.contains (.type X) = bmB.contains (.type X))
    (hC : h.get? C = some (excClassObj nm q C N bs bm hdct sn sub ab col dd k0 k1 k2 k3 k5 newId))
    (hi : W.Looks (model prog w) h (typeLookup (.ref C) "__init__") (some (.ref fI))) (hb : ∀ self, W.Looks (model prog w) h (bindSpecial (.ref fI) self) (.ref fI, [self])) (few : rest.length ≤ sizeLine)
    (fin : codeAny (model prog w) A (.call (.ref fI) ⟨.ref (h.objs.size + 1) :: rest, kw⟩)
      (fun r s' => match r with | .ok (.ret v) => v = .none ∧ Q (.done (.ret (.ref (h.objs.size + 1)))) s' | .ok _ => False | .error e => E e s')
      ⟨(h.push (W.kdv_tup rest)).push (excO C h.objs.size), g, d, t, os⟩) :
    wpAny (model prog w) A (Builtin.«type.__call__» ⟨.ref C :: rest, kw⟩) Q E ⟨h, g, d, t, os⟩ := by
  repeat (first | with_reducible refine wpAny_loadPart_at hC ?_ | with_reducible refine wpAny_madeBy_exc hC ?_ | wp_step)
  refine codeAny_call_builtin_code (Code.quiet_builtin _ F.quiet) (newCheck F hT hC ?_)
  refine newRun F hT hC ?_ few
  show wpAny _ _ _ _ _ _
  have kept : ∀ b o, h.get? b = some o → ((h.push (W.kdv_tup rest)).push (excO C h.objs.size)).get? b = some o := by
    intro b o e
    exact Heap.get?_push_of_some _ (Heap.get?_push_of_some _ e)
  have hC1 := kept _ _ hC
  have atNew : ((h.push (W.kdv_tup rest)).push (excO C h.objs.size)).get? (h.objs.size + 1) = some (excO C h.objs.size) := by heap_get
  have inC : (Value.ref C :: bm).contains (.ref C) = true := by simp
  have i1 := hi.keeps kept
  have b1 := (hb (.ref (h.objs.size + 1))).keeps kept
  unfold isInstance
  repeat (first | with_reducible refine wpAny_loadPart_at atNew ?_ | (with_reducible refine wpAny_isSubtype_exc hC1 ?_; rw [inC]) | wp_step)
  show wpAny _ _ (typeLookup (.ref C) _) _ _ _
  refine i1.at ?_
  refine wpAny_holding (wpAny_bind (b1.at ?_))
  refine wpAny_bind (wpAny_call (codeAny_mono fin fun r s' z => ?_))
  rcases r with e | (v | _ | _ | _) <;> first | exact z | exact z.elim | skip
  obtain ⟨rfl, z⟩ := z
  first
    | exact wpAny_pure (wpAny_pure z)
    | (wp_walk; exact z)

theorem typeCallCheck {Q : Unit → Shared → Prop} (hC : h.get? C = some (excClassObj nm q C N bs bm hdct sn sub ab col dd k0 k1 k2 k3 k5 newId))
    (fin : Q () ⟨h, g, d, t, os⟩) : wpAny (model prog w) A (checkBuiltinCall "type.__call__" ⟨.ref C :: rest, kw⟩) Q E ⟨h, g, d, t, os⟩ := by
  have f3 := tc_sub
  have isT : (⟨h, g, d, t, os⟩ : Shared).TypeIs (.ref C) "type" := ⟨_, hC, rfl⟩
  simp only [checkBuiltinCall, tc_kind, tc_split]
  repeat (any_goals (first | assumption | with_reducible refine wpAny_loadPart_at hC ?_ | with_reducible refine wpAny_onRaise ?_ | with_reducible refine wpAny_map ?_ | wp_step))

/-- C(.., k = v, ..) -/
theorem callNew (F : ExcBaseFacts B newId initId bmB) (hT : ∀ X : String, bm.contains (.type X) = bmB.contains (.type X))
    (hC : h.get? C = some (excClassObj nm q C N bs bm hdct sn sub ab col dd k0 k1 k2 k3 k5 newId))
    (hi : W.Looks (model prog w) h (typeLookup (.ref C) "__init__") (some (.ref fI))) (hb : ∀ self, W.Looks (model prog w) h (bindSpecial (.ref fI) self) (.ref fI, [self])) (few : rest.length ≤ sizeLine)
    (fin : codeAny (model prog w) (A.under (.builtin "type.__call__" ⟨.ref C :: rest, kw⟩)) (.call (.ref fI) ⟨.ref (h.objs.size + 1) :: rest, kw⟩) (W.InitBack (h.objs.size + 1) R)
      ⟨(h.push (W.kdv_tup rest)).push (excO C h.objs.size), g, d, t, os⟩) :
    codeAny (model prog w) A (.call (.ref C) ⟨rest, kw⟩) R ⟨h, g, d, t, os⟩ := by
  have f1 := tc_lookup
  have f2 := tc_bind (.ref C)
  have isT : (⟨h, g, d, t, os⟩ : Shared).TypeIs (.ref C) "type" := ⟨_, hC, rfl⟩
  refine codeAny_of_tree ?_
  show wpAny _ _ (callAny (.ref C) _) _ _ _
  repeat (any_goals (first | assumption | with_reducible refine wpAny_loadPart_at hC ?_ | wp_step))
  refine ⟨rfl, ?_⟩
  refine codeAny_call_builtin_at (Code.quiet_builtin _ (by decide +kernel)) entry_typeCall (typeCallCheck hC (typeCall F hT hC hi hb few ?_))
  refine codeAny_mono fin fun r s' z => ?_
  rcases r with e | (v | _ | _ | _) <;> exact z
end
end WkE

namespace Wk
open PySem PySem.Spec PyProof.Rows L2
/-- C(.., k = v, ..) of an exception class with its own __init__, as a value: n positional values, m keywords; H3 holds the exception and its dict -/
def tMkV (C : Addr) (n m : Nat) (sp : Sp) (gV : List V → List V → List V) (t tk : TA) : TE := fun σ H Q => t σ H fun vs H1 => tk σ H1 fun zs H2 => vs.length = n ∧ zs.length = m ∧
  ∀ a, H2 a = none → sp (gV (.ref a :: vs) zs) (upd H2 a (exo a C none)) (fun v H3 => v = .non ∧ Q (.ref a) H3) fun _ _ _ => False
section
variable {X : Cx} {CX : CXT} {k n : Nat} {fI C : Addr} {fd : FuncData} {ps ks : List Str} {sp : Sp} {x : Str} {p pos : Pos} {e : Expr} {es : List Expr} {kws : List Keyword} {t tk : TA}
variable {g : List Value → List Value → List Value} {gV : List V → List V → List V}
theorem runMkV {pins : List (Addr × Obj)} {σ : L2.St} {H : Hp} {s : Shared} {Q : VK} {us ws : List Value} {vs zs : List V} (T : OexC X.K C)
    (iC : PySem.W.findIn X.K (.ref C) "__init__" = some (some (.ref fI))) (tI : PySem.W.typeIn X.K (.ref fI) = some (.type "function"))
    (F : FnOk X.prog X.w X.K X.mg X.base CX k fI fd ps sp) (hr : Room (k + 1) X.A) (hb : KBn X.K fd ps (n + 1) ks g gV) (hx : Passes CX X fun _ _ _ => False)
    (I : Inv X pins σ H s) (r : Vals vs us) (rz : Vals zs ws) (l1 : vs.length = n) (l2 : zs.length = ks.length) (hn : n ≤ 1000)
    (want : ∀ a, H a = none → sp (gV (.ref a :: vs) zs) (upd H a (exo a C none)) (fun v H3 => v = .non ∧ Q (.ref a) H3) fun _ _ _ => False) :
    wpAny (model X.prog X.w) X.A (call (.ref C) us (ks.zip ws)) (EP X pins σ Q) X.xe s := by
  obtain ⟨nm, q, N, bs, bm, sn, sub, ab, col, dd, k0, k1, k2, k3, k5, hC, hbm⟩ := T.cls
  obtain ⟨hp, gs, dr, tok, os⟩ := s
  have le : hp.objs.size ≤ hp.objs.size + 1 := Nat.le_succ _
  have free : H (hp.objs.size + 1) = none := I.hok.fresh le
  have hq := want (hp.objs.size + 1) free
  have kept : ∀ b o, hp.get? b = some o → ((hp.push (PySem.W.kdv_tup us)).push (PySem.HandSPX.excO C hp.objs.size)).get? b = some o :=
    fun b o e => Heap.get?_push_of_some _ (Heap.get?_push_of_some _ e)
  have atNew : ((hp.push (PySem.W.kdv_tup us)).push (PySem.HandSPX.excO C hp.objs.size)).get? (hp.objs.size + 1) = some (PySem.HandSPX.excO C hp.objs.size) := by heap_get
  have I2 : Inv X pins σ (upd H (hp.objs.size + 1) (exo (hp.objs.size + 1) C none)) ⟨(hp.push (PySem.W.kdv_tup us)).push (PySem.HandSPX.excO C hp.objs.size), gs, dr, tok, os⟩ :=
    I.laid (t' := tok) kept le (exo_ok atNew)
  have r1 : Vals (V.ref (hp.objs.size + 1) :: vs) (Value.ref (hp.objs.size + 1) :: us) := .cons rfl r
  have r2 := hb.rel r1 rz
  have n1 : (Value.ref (hp.objs.size + 1) :: us).length = n + 1 := by
    rw [List.length_cons, ← r.length, l1]
  have few : us.length ≤ sizeLine := by
    rw [← r.length, l1, sizeLine_eq]
    omega
  refine wpAny_call (WkE.callNew PySem.F.excBase_ValueError (fun Y => PySem.HandSPX.refsVE_contains Y bm hbm) (I.kIn _ _ hC) (PySem.W.looks_findIn I.kIn iC) (fun self => PySem.W.bind_fn I.kIn self tI) few ?_)
  refine codeAny_mono (F.run _ X.stack _ _ ⟨Value.ref (hp.objs.size + 1) :: us, ks.zip ws⟩ (g (Value.ref (hp.objs.size + 1) :: us) ws) _ _ (fun _ _ _ => False)
    (hr.make C us (ks.zip ws)) (I2.env0.make C us (ks.zip ws)) (hb.to _ (Value.ref (hp.objs.size + 1) :: us) ws I2.kIn n1 (rz.length.symm.trans l2)) r2 hq) ?_
  intro r s' hq'
  match r, hq' with
  | .error er, hq' => exact hx pins σ _ _ er s' I2 hq'
  | .ok (.ret u), hq' =>
    obtain ⟨v, H3, I3, rv, ev, q3⟩ := I2.after hq'
    subst ev
    exact ⟨rv, V.ref (hp.objs.size + 1), H3, I3, rfl, q3⟩
/-- C(e, ..) -/
theorem pe_mkV (T : OexC X.K C) (iC : PySem.W.findIn X.K (.ref C) "__init__" = some (some (.ref fI))) (tI : PySem.W.typeIn X.K (.ref fI) = some (.type "function"))
    (F : FnOk X.prog X.w X.K X.mg X.base CX k fI fd ps sp) (hr : Room (k + 1) X.A) (hb : KBn X.K fd ps (n + 1) [] g gV) (hx : Passes CX X fun _ _ _ => False) (hn : n ≤ 1000)
    (hg : Gl X x) (hm : X.mg x = some (.ref C)) (ha : PA X (e :: es) t) (hdb : (x == ("__debug__" : Str)) = false := by decide)
    (he : starEach (e :: es) X.env = (false, eval e X.env) :: starEach es X.env := by rfl) (hpl : (backTo pos (starEach es X.env)).any (·.1) = false := by rfl) :
    PE X (.Call (.Name x p) (e :: es) [] pos) (tMkV C n 0 sp gV t tNil) := by
  constructor
  intro pins s σ H Q I h
  refine wpAny_Call_Name_kw (ld_glob I hg hm ?_ hdb)
  refine PySem.W.callWith_K (h₀ := X.base) I.ok.mod.kin T.kC (thn (ha.run pos pins s σ H _ I h) ?_) he hpl
  rintro us s1 ⟨vs, H1, I1, r, l1, l2, q⟩
  exact ⟨I1.kIn, runMkV (ks := []) (ws := []) (zs := []) T iC tI F hr hb hx I1 r .nil l1 rfl hn q⟩
/-- C(k = v, ..) -/
theorem pe_mkVK (T : OexC X.K C) (iC : PySem.W.findIn X.K (.ref C) "__init__" = some (some (.ref fI))) (tI : PySem.W.typeIn X.K (.ref fI) = some (.type "function"))
    (F : FnOk X.prog X.w X.K X.mg X.base CX k fI fd ps sp) (hr : Room (k + 1) X.A) (hb : KBn X.K fd ps 1 ks g gV) (hx : Passes CX X fun _ _ _ => False)
    (hg : Gl X x) (hm : X.mg x = some (.ref C)) (hkw : PK X kws tk) (hall : (backToKw pos (keywordEach kws X.env)).all (·.1.isSome) = true := by rfl)
    (hks : (backToKw pos (keywordEach kws X.env)).filterMap (·.1) = ks := by rfl) (hdb : (x == ("__debug__" : Str)) = false := by decide)
    (hpl : ((backTo pos (starEach [] X.env)).any (·.1) || (backToKw pos (keywordEach kws X.env)).any (·.1.isNone)) = false := by rfl) :
    PE X (.Call (.Name x p) [] kws pos) (tMkV C 0 ks.length sp gV tNil tk) := by
  constructor
  intro pins s σ H Q I h
  refine wpAny_Call_Name_kw (ld_glob I hg hm ?_ hdb)
  refine PySem.W.callWith_KW0 (h₀ := X.base) I.ok.mod.kin T.kC hall (thn (hkw.run pos pins s σ H _ I h) ?_) hpl
  rintro ws s2 ⟨zs, H2, I2, rz, l1, l2, q2⟩
  refine ⟨I2.kIn, ?_⟩
  rw [hks]
  exact runMkV (us := []) (vs := []) T iC tI F hr hb hx I2 .nil rz rfl l2 (Nat.zero_le _) q2
end

/-! ### isinstance of such a value -/
/-- what the class at D says, so that isinstance asks its instances rightly -/
structure IsC (K : PySem.W.Frag) (D : Addr) : Prop where
  cl : (PySem.W.clsIn K D).isSome = true
  ga : PySem.W.findIn K (.ref D) "__getattribute__" = some (some (.builtin "BaseException.__getattribute__"))
  gt : PySem.W.findIn K (.ref D) "__getattr__" = some none
  sub : PySem.W.subIn K (.ref D) (.type "BaseException") = some true
  cls : PySem.W.findIn K (.ref D) "__class__" = some (some (.builtin "object.__class__"))
  get : PySem.W.specialIn K (.builtin "object.__class__") "__get__" = some (some (.builtin "getset_descriptor.__get__"))
  tak : PySem.W.takesIn K (.builtin "object.__class__") = some true
  mro : PySem.W.mroIn K D (.type "object") = some true
/-- isinstance(x, c), x an exception with its dict -/
def rIsX (K : PySem.W.Frag) : List V → Hp → VK → Prop := fun xs H Q => ∃ (a C dx : Addr) (fs : List (Str × V)) (c : V) (u : Value) (b : Bool),
  xs = [.ref a, c] ∧ H a = some (exo a C (some dx)) ∧ H dx = some (exd dx fs) ∧ IsC K C ∧ ClsV c u ∧ PySem.W.kitOne K (.ref C) u = some b ∧ Q (.bl b) H
section
variable {X : Cx}
theorem call_isX : CallR X (.builtin "isinstance") (rIsX X.K) := by
  intro pins s σ H xs us Q I r h
  obtain ⟨a, C, dx, fs, c, u, b, rfl, ea, ed, T, kc, e, q⟩ := h
  obtain ⟨u1, u2, rfl, r1, r2⟩ := vals2 r
  cases kc.eq r2
  cases (show u1 = Value.ref a from r1)
  obtain ⟨t1, ho⟩ := exo_at I.hok ea
  obtain ⟨mA, hns, rel⟩ := exd_at I.hok ed
  obtain ⟨od, hod, _⟩ := lookIn_ns hns
  have J : PySem.W.InstAt s.heap a { cls := .ref C, dict := some dx, data := .fields #[.ref t1, .none, .none, .none, .bool false, .none] } C (some od) := ⟨ho, rfl, rfl, hod⟩
  exact PySem.W.kia_one (PySem.W.kitx_exc T.cl T.ga T.gt T.sub T.cls T.get T.tak T.mro) I.kIn J e (fun z => nomatch z) fun tk => ⟨.bl b, H, I.tok tk, rfl, q⟩
/-- isinstance(x, (c1, ..)), x an exception without a dict -/
def rIsXT (K : PySem.W.Frag) : List V → Hp → VK → Prop := fun xs H Q => ∃ (a C tp : Addr) (cs : List V) (us : List Value) (b : Bool),
  xs = [.ref a, .ref tp] ∧ H a = some (ExO (.ref C) a) ∧ H tp = some (.tup cs) ∧ IsC K C ∧ Paired ClsV cs us ∧ PySem.W.kitAny K (.ref C) us = some b ∧ Q (.bl b) H
theorem call_isXT : CallR X (.builtin "isinstance") (rIsXT X.K) := by
  intro pins s σ H xs us Q I r h
  obtain ⟨a, C, tp, cs, ws, b, rfl, ea, hT, T, kc, e, q⟩ := h
  obtain ⟨u1, u2, rfl, r1, r2⟩ := vals2 r
  cases (show u1 = Value.ref a from r1)
  cases (show u2 = Value.ref tp from r2)
  obtain ⟨⟨oe, vs, ho, hz, hd, _⟩, _, _⟩ := I.hok a _ ea
  obtain ⟨_, its, rv, o, h1, h2, n, h3⟩ := (show ObjOk X.prog X.w H s.heap tp (.tup cs) from I.hok tp _ hT)
  cases ClsV.all kc rv
  obtain ⟨oc, od, dt, sl⟩ := o
  simp only at h2 h3
  subst h2 h3
  have J : PySem.W.InstAt s.heap a oe C none := ⟨ho, hz.1, by unfold PySem.W.notCls; rw [hd] <;> rfl, by rw [hz.2]; exact trivial⟩
  exact PySem.W.kia_tup (PySem.W.kitx_exc T.cl T.ga T.gt T.sub T.cls T.get T.tak T.mro) I.kIn J h1 e (fun z => nomatch z) fun tk => ⟨.bl b, H, I.tok tk, rfl, q⟩
end

/-! ### a field of such a value -/
def tXv (K : PySem.W.Frag) (f : Str) (te : TE) : TE := fun σ H Q => te σ H fun x H1 => ∃ (a C dx : Addr) (fs : List (Str × V)) (v : V), x = .ref a ∧ XfC K C ∧ PySem.W.findIn K (.ref C) f = some none ∧
  H1 a = some (exo a C (some dx)) ∧ H1 dx = some (exd dx fs) ∧ fs.lookup f = some v ∧ Q v H1
theorem pe_xv {X : Cx} {e : Expr} {te : TE} {pos : Pos} {f : Str} (he : PE X e te) (hb : attributeBase e f X.env (eval e X.env) = eval e X.env := by rfl) : PE X (.Attribute e f pos) (tXv X.K f te) := by
  constructor
  intro pins s σ H Q I h
  refine attr_of hb (thn (he.run pins s σ H _ I h) ?_)
  rintro u s1 ⟨x, H1, I1, rx, a, C, dx, fs, v, rfl, T, no, ea, ed, l, q⟩
  cases (show u = Value.ref a from rx)
  obtain ⟨t1, ho⟩ := exo_at I1.hok ea
  obtain ⟨mA, hns, rel⟩ := exd_at I1.hok ed
  obtain ⟨od, hod, hl⟩ := lookIn_ns hns
  obtain ⟨u, hu, ru⟩ := RelO.some_of (v := v) (o := mA f) (by rw [← l]; exact rel f)
  have J : PySem.W.InstAt s1.heap a { cls := .ref C, dict := some dx, data := .fields #[.ref t1, .none, .none, .none, .bool false, .none] } C (some od) := ⟨ho, rfl, rfl, hod⟩
  exact HandSPX.exc_get I1.kIn J T.ga T.gg T.exC (PySem.W.findObj_own T.hdC no rfl (by rw [hl, hu])) (handed_of ru) ⟨v, H1, I1.tok _, ru, q⟩

/-! ### C(), an exception class without an own __init__ -/
theorem pe_exc0 {X : Cx} {C : Addr} {bmB : List Value} {B newId initId : String} {x : Str} {p pos : Pos} (F : ExcBaseFacts B newId initId bmB) (q : PySem.W.excIn X.K C bmB newId = true) (gC : X.mg x = some (.ref C))
    (kC : PySem.W.keepIn X.K (.ref C) = true) (hg : Gl X x) (hdb : (x == ("__debug__" : Str)) = false := by decide) :
    PE X (.Call (.Name x p) [] [] pos) (fun σ H Q => ∀ a, H a = none → Q (.ref a) (upd H a (ExO (.ref C) a))) := by
  constructor
  intro pins s σ H Q I h
  refine wpAny_Call_Name_kw (ld_glob I hg gC ?_ hdb)
  refine PySem.W.callWith_K0 I.kIn kC ?_
  obtain ⟨bm, N, nm, qn, bs, hdct, sn, sub, ab, col, dd, k0, k1, k2, k3, k5, mN, hC, hN, hni, T⟩ := exc_obj I.kIn q
  refine wpAny_call_exc_subT F T hC hN hni (fun h' a hm => ?_) (by show 0 ≤ sizeLine; exact Nat.zero_le _)
  have free : H a = none := I.hok.gone hm.new
  obtain ⟨t, ht, _, _⟩ := hm.there
  exact ⟨.ref a, upd H a (ExO (.ref C) a), I.laidN hm.keeps hm.new free (exO_ok ht ⟨rfl, rfl⟩ rfl rfl rfl (show 4 < 6 by decide)), rfl, h a free⟩

/-! ### repr of data -/
/-- repr(x), x data: its text. No repr is under way -/
def rRepr (K : PySem.W.Frag) : List V → Hp → VK → Prop := fun xs H Q => ∃ (x : V) (d : PyData), xs = [x] ∧ Dp K H x d ∧ d.showable = true ∧ d.hasDict = false ∧ d.depth ≤ 60 ∧ (d.shown.length ≤ sizeLine ∨ ∃ i, d = .int i) ∧ Q (.str d.shown) H
theorem call_repr {X : Cx} (gd : X.A.guards = some []) (hu : X.A.units + 64 < cLine) : CallR X (.builtin "repr") (rRepr X.K) := by
  intro pins s σ H xs us Q I r h
  obtain ⟨x, d, rfl, dp, sh, nd, dep, sz, q⟩ := h
  obtain ⟨u, rfl, rx⟩ := vals1 r
  obtain ⟨as, rd⟩ := Dp.reads I d x u dp rx
  cases dp with
  | non =>
    cases rx
    exact PySem.P.repr_of_none ⟨.str _, H, I.tok _, ⟨_, rfl⟩, q⟩
  | bl b =>
    cases rx
    exact PySem.P.repr_of_bool ⟨.str _, H, I.tok _, ⟨_, rfl⟩, q⟩
  | int i =>
    obtain ⟨t, rfl⟩ := rx
    exact PySem.P.repr_of_int (by simpa [PyData.showable] using sh) ⟨.str _, H, I.tok _, ⟨_, rfl⟩, q⟩
  | str z =>
    obtain ⟨t, rfl⟩ := rx
    exact PySem.P.repr_of_str ⟨.str _, H, I.tok _, ⟨_, rfl⟩, q⟩ (sz.elim id fun ⟨_, e⟩ => nomatch e)
  | lst _ _ =>
    cases rx
    exact repr_of_reads' rd sh (PyData.noDict_hsm nd) gd (by omega) (fun _ _ e => e) (fun h' u tk hk => ⟨.str _, H, I.kept hk, ⟨_, rfl⟩, q⟩) (sz.elim id fun ⟨_, e⟩ => nomatch e)
  | tup _ _ =>
    cases rx
    exact repr_of_reads' rd sh (PyData.noDict_hsm nd) gd (by omega) (fun _ _ e => e) (fun h' u tk hk => ⟨.str _, H, I.kept hk, ⟨_, rfl⟩, q⟩) (sz.elim id fun ⟨_, e⟩ => nomatch e)
end Wk
set_option Elab.async false
set_option linter.all false
set_option maxRecDepth 100000
set_option maxHeartbeats 4000000
/-! try .. except X as n, where the suite keeps the error for later: behind the suite it is tracked; isinstance of such an error, its fields. -/
namespace Wk
open PySem PySem.Spec PyProof.Rows L2
/-- an error that has been caught: its class, its own dict -/
def ExH (cls : Value) (d : Option Addr) (a : Addr) : HO := .ext fun h => ∃ (oe : Obj) (vs : Array Value), h.get? a = some oe ∧ Zc cls d oe ∧ oe.data = .fields vs
theorem exH_ok {P : Program} {w : World} {H : Hp} {h : Heap} {a : Addr} {cls : Value} {d : Option Addr} {oe : Obj} {vs : Array Value} (e : h.get? a = some oe) (z : Zc cls d oe) (dd : oe.data = .fields vs) : ObjOk P w H h a (ExH cls d a) :=
  ⟨⟨oe, vs, e, z, dd⟩, ⟨oe, e⟩, fun _ _ ⟨o, v, q, r⟩ k => ⟨o, v, k o q, r⟩⟩
section
variable {X : Cx} {pins : List (Addr × Obj)} {σ : L2.St} {H : Hp} {s : Shared}
/-- an object that came behind the entry is tracked from now on -/
theorem track {a : Addr} {o : HO} (I : L2.Inv X pins σ H s) (free : H a = none) (late : ∀ b u, X.s_0.heap.get? b = some u → b ≠ a) (nL : a ≠ X.env.locals) (nC : ∀ x c, X.env.cells.lookup x = some c → c ≠ a)
    (nP : ∀ p ∈ X.pn ++ pins, p.1 ≠ a) (new : ObjOk X.prog X.w (upd H a o) s.heap a o) : L2.Inv X pins σ (upd H a o) s where
  ok := I.ok
  os := I.os
  bare := I.bare
  base := {
    keep := I.base.keep
    slot := I.base.slot
    free := fun b u e n hx => by
      rw [upd_ne (late b u e)]
      exact I.base.free b u e n hx
    there := I.base.there
    tups := fun b xs e => by
      have z := I.base.tups b xs e
      rw [upd_ne (ne_of_none z free)]
      exact z
    frzs := fun b u v e => by
      have z := I.base.frzs b u v e
      rw [upd_ne (ne_of_none z free)]
      exact z
    tbls := fun b ps e => by
      obtain ⟨m, z⟩ := I.base.tbls b ps e
      exact ⟨m, by rw [upd_ne (ne_of_none z free)]; exact z⟩ }
  loc := I.loc
  cell := I.cell
  free := by
    rw [upd_ne (Ne.symm nL)]
    exact I.free
  freeC := fun x c e => by
    rw [upd_ne (nC x c e)]
    exact I.freeC x c e
  pin := fun p hp => by
    obtain ⟨e, n, r⟩ := I.pin p hp
    exact ⟨e, by rw [upd_ne (nP p hp)]; exact n, r⟩
  hok := fun b u e => by
    by_cases hb : b = a
    · subst hb
      rw [upd_same] at e
      cases e
      exact new
    · rw [upd_ne hb] at e
      refine (I.hok b u e).stay (fun _ _ _ q => q) (fun c q => ?_) (fun c xs q => ?_)
      · rw [upd_ne (ne_of_none q free)]
        exact q
      · rw [upd_ne (ne_of_none q free)]
        exact q
  len := I.len
end
/-- what the clause wishes: its suite, with the error in slot i; behind the suite the error stands in the heap -/
def wKeep (K : PySem.W.Frag) (c : Value) (i : Nat) (ts : Addr → Value → Option Addr → TS) (Wout : WX) (D : Ends) : WX := fun cls d σ H =>
  ∃ b, PySem.W.exmOne K cls c = some b ∧
    (b = true → ∀ a, H a = none → ts a cls d { nx := fun τ G => D.nx (τ.set i none) (upd G a (ExH cls d a)), rt := D.rt, bk := fun τ G => D.bk (τ.set i none) (upd G a (ExH cls d a)), ct := fun τ G => D.ct (τ.set i none) (upd G a (ExH cls d a)) } (σ.set i (some (.ref a))) H) ∧
    (b = false → Wout cls d σ H)
section
variable {X : Cx} {x n : Str} {c : Value} {i : Nat} {body suite : List Stmt} {b0 : Stmt} {np pos pos' : Pos} {tb : WX → TS} {ts : Addr → Value → Option Addr → TS} {Wout : WX}
theorem ps_try_keep (hs : X.stack = X.env :: X.outer) (hf : X.env.frame = some X.env.locals) (hex : X.ex = []) (hN : X.N.Nodup) (hi : X.N[i]? = some n) (hln : X.env.kindOf n = some .local) (hc : Names X x c) (tk : Takes X Wout)
    (hb : ∀ (W : WX) (pn : List (Addr × Obj)) (xe : Value → Shared → Prop), Takes (X.tr pn xe) W → PassesOwn (model X.prog X.w) X.A X.env xe → PSs (X.tr pn xe) body (tb W))
    (hsu : ∀ (a : Addr) (oe : Obj) (cls : Value) (d : Option Addr) (pn : List (Addr × Obj)), Zc cls d oe → (∃ vs, oe.data = .fields vs) → PSs (X.suite a ((a, oe) :: pn)) (b0 :: suite) (ts a cls d)) :
    PS X (.Try body [.ExceptHandler (some (.Name x np)) (some n) (b0 :: suite) pos'] [] [] pos) (fun D σ H => tb (wKeep X.K c i ts Wout D) D σ H) := by
  constructor
  intro pins s σ H D I h
  have ok := I.ok
  have frames : X.A.frames = some (X.env :: X.outer) := by rw [ok.frames, hs]
  refine wpAny_Try_except ?_
  let after : Value → Shared → Prop := fun e s₁ => wpAny (model X.prog X.w) X.A (noteFrame e X.env) (fun _ s₂ => wpAny (model X.prog X.w) X.A (setFlight e none)
    (fun _ s₃ => wpAny (model X.prog X.w) X.A (handleBy e X.env [.ExceptHandler (some (.Name x np)) (some n) (b0 :: suite) pos']) (SP X pins D) X.xe s₃) X.xe s₂) X.xe s₁
  have catch_ : Takes (X.tr (X.pn ++ pins) after) (wKeep X.K c i ts Wout D) := by
    rintro u s' ⟨a, B, sI, pins', σ', H', cls, d, rfl, J', nb, up, sky, na, os, ag, b, hb1, yes, no⟩
    have J : L2.Inv X pins σ' H' sI := J'.ofTry ok
    have sky' : Sky B (X.env :: X.outer) a (Zc cls d) X.env.locals s'.heap := by rw [← hs]; exact sky
    show wpAny (model X.prog X.w) X.A (noteFrame (.ref a) X.env) _ _ _
    refine Sky.land Zc.steady frames hf sky' fun h3 fl3 up3 => ?_
    have J3 : L2.Inv X pins σ' H' { s' with heap := h3 } := J.landed nb fl3.1 (up.trans up3) os ag
    obtain ⟨oe3, vs3, he3, hz3, hd3⟩ := fl3.there
    have noB : B.get? a = none := fl3.2.1
    have nfr : a ∉ frs (X.env :: X.outer) := by
      intro hm
      obtain ⟨_, o', e', hnf⟩ := fl3.2.2.1.mem hm
      rw [he3] at e'
      cases e'
      exact hnf _ hd3
    have nL : a ≠ X.env.locals := fun z => nfr (List.mem_filterMap.mpr ⟨X.env, List.mem_cons_self, by rw [hf, z]⟩)
    have nF : a ∉ X.fs := by
      intro hm
      obtain ⟨e, he, q⟩ := List.mem_filterMap.mp hm
      exact nfr (List.mem_filterMap.mpr ⟨e, List.mem_cons_of_mem _ he, q⟩)
    -- what stood at the entry, the pins, the cells: none of them is the error
    have late : ∀ b u, X.s_0.heap.get? b = some u → b ≠ a := by
      intro b u e z
      by_cases hm : b ∈ frs (X.env :: X.outer)
      · exact nfr (z ▸ hm)
      · obtain ⟨o', e'⟩ := J.base.there b u e (by rw [hex]; exact List.not_mem_nil)
        have q := nb b o' e' (by rw [hs]; exact hm)
        rw [z, noB] at q
        cases q
    have pinsA : ∀ p ∈ X.pn ++ pins, p.1 ≠ a := by
      intro p hp z
      obtain ⟨e, _, ne, nf, _⟩ := J.pin p hp
      have hm : p.1 ∉ frs (X.env :: X.outer) := by rw [z]; exact nfr
      have q := nb p.1 p.2 e (by rw [hs]; exact hm)
      rw [z, noB] at q
      cases q
    have S3 := J3.suite he3 hd3 na nL nF
    refine wpAny_handleBy_cons (codeAny_handlers_test ?_) (by intro q; cases q)
    have tyA : PySem.W.Looks (model X.prog X.w) h3 (typeOf (.ref a)) cls := fun A Q E s k q => wpAny_typeOf_ref (k _ _ he3) (by rw [hz3.1]; exact q)
    have meets := PySem.W.exm_one (M := model X.prog X.w) (J3.kIn) tyA hb1
    have asked : ∀ {Q : Value → Shared → Prop} {E : Value → Shared → Prop}, Q c { s' with heap := h3 } → wpAny (model X.prog X.w) (X.A.mark (some (.ref a))) (eval (.Name x np) X.env) Q E { s' with heap := h3 } := by
      intro Q E q
      obtain ⟨hg, hdbg, hm | ⟨hm, hv, hnn⟩⟩ := hc
      · exact ld_glob (X := X.suite a ((a, oe3) :: (X.pn ++ pins))) S3 hg hm q hdbg
      · exact ld_blt (X := X.suite a ((a, oe3) :: (X.pn ++ pins))) S3 hg hm hv q hnn hdbg
    refine asked (meets.here ?_)
    cases b with
    | true =>
      refine codeAny_handlers_suite_as (HandSPX.lands_againZ fl3 fun h4 fl4 up4 => ?_)
      have J4 : L2.Inv X pins σ' H' { s' with heap := h4 } := J.landed nb fl4.1 ((up.trans up3).trans up4) os ag
      obtain ⟨oe4, vs4, he4, hz4, hd4⟩ := fl4.there
      have S4 := J4.suite he4 hd4 na nL nF
      refine store_ok (X := X.suite a ((a, oe4) :: (X.pn ++ pins))) (v := .ref a) S4 hN hi (.inl hln) rfl (fun s5 S5 => ?_) (.inr hln)
      refine wpAny_mono ((hsu a oe4 cls d (X.pn ++ pins) hz4 ⟨_, hd4⟩).run [] s5 _ H' _ S5 (yes rfl a na)) ?_ (fun _ _ z => z.elim)
      intro f s6 hsp
      have leave : ∀ {σ6 : L2.St} {H6 : Hp} {Q : Shared → Prop}, L2.Inv (X.suite a ((a, oe4) :: (X.pn ++ pins))) [] σ6 H6 s6 →
          (∀ s7, L2.Inv X pins (σ6.set i none) H6 s7 → L2.Inv X pins (σ6.set i none) (upd H6 a (ExH cls d a)) s7 → Q s7) →
          wpAny (model X.prog X.w) X.A (do bindName X.env n .none; unbindBehindTheSuite X.env n pos') (fun _ s7 => Q s7) X.xe s6 := by
        intro σ6 H6 Q S6 hq
        obtain ⟨ga, fa, _⟩ := S6.pin (a, oe4) (List.mem_append_left _ List.mem_cons_self)
        have J6 : L2.Inv X ((a, oe4) :: pins) σ6 H6 s6 := (S6.unsuite ok).pins_of (pins' := (a, oe4) :: pins) fun p hp =>
          S6.pin p (List.mem_append_left _ (by
            rcases List.mem_cons.mp hp with e | e
            · rw [e]; exact List.mem_cons_self
            · exact List.mem_cons_of_mem _ (List.mem_append_right _ e)))
        refine gone_ok J6 hN hi hln fun s7 J7 => ?_
        obtain ⟨g7, f7, _, _, dc⟩ := J7.pin (a, oe4) (List.mem_append_right _ List.mem_cons_self)
        have K7 : L2.Inv X pins (σ6.set i none) H6 s7 := J7.pins_of fun p hp => J7.pin p (List.mem_append_right _ (List.mem_cons_of_mem _ hp))
        refine hq s7 K7 (track K7 f7 late nL ?_ pinsA (exH_ok g7 hz4 hd4))
        intro y cc e z
        obtain ⟨v, o, ho, hd⟩ := K7.cell y cc e
        rw [z, g7] at ho
        cases ho
        exact dc v hd
      cases f with
      | next =>
        obtain ⟨σ6, H6, S6, q6⟩ := hsp
        exact leave S6 fun s7 _ J7 => ⟨_, _, J7, q6⟩
      | brk =>
        obtain ⟨σ6, H6, S6, q6⟩ := hsp
        exact leave S6 fun s7 _ J7 => ⟨_, _, J7, q6⟩
      | cont =>
        obtain ⟨σ6, H6, S6, q6⟩ := hsp
        exact leave S6 fun s7 _ J7 => ⟨_, _, J7, q6⟩
      | ret u =>
        obtain ⟨v6, σ6, H6, S6, r6, q6⟩ := hsp
        exact leave S6 fun s7 J7 _ => ⟨_, _, _, J7, r6, q6⟩
    | false =>
      show wpAny _ X.A (handleBy (.ref a) X.env []) _ _ _
      refine wpAny_handleBy_nil ?_
      obtain ⟨k1, k2, k3, oe, vs, T, oT, tt, he, hz, hd, h1, hr⟩ := id fl3
      unfold PySem.passOn
      refine wpAny_bind (wpAny_field he hd h1 ?_)
      rw [if_neg (show ¬ ((Value.ref T == Value.none) = true) from by simp)]
      have fin : wpAny (model X.prog X.w) X.A (setFlight (.ref a) X.env.frame) (fun _ s4 => wpAny (model X.prog X.w) X.A (throw (.ref a) : Sem Flow) (SP X pins D) X.xe s4) X.xe { s' with heap := h3 } := by
        rw [hf]
        refine HandSPX.setFlight_upZ fl3 fun h4 fl4 up4 => wpAny_throw (tk _ _ ?_)
        exact ⟨a, B, sI, pins, σ', H', cls, d, rfl, J, nb, (up.trans up3).trans up4, .inr (.inr (by rw [hs]; exact fl4)), na, os, ag, no rfl⟩
      first
        | exact wpAny_bind (wpAny_pure (wpAny_bind fin))
        | exact wpAny_bind fin
  refine wpAny_mono ((hb (wKeep X.K c i ts Wout D) (X.pn ++ pins) after catch_ PassesOwn.looking).run [] s σ H D (I.toTry _) h) ?_ (fun e s1 he => he)
  intro f s1 hsp
  cases f with
  | next =>
    obtain ⟨σ', H', J', q⟩ := hsp
    exact wpAny_execs_nil ⟨σ', H', J'.ofTry ok, q⟩
  | brk =>
    obtain ⟨σ', H', J', q⟩ := hsp
    exact ⟨σ', H', J'.ofTry ok, q⟩
  | cont =>
    obtain ⟨σ', H', J', q⟩ := hsp
    exact ⟨σ', H', J'.ofTry ok, q⟩
  | ret u =>
    obtain ⟨v, σ', H', J', r, q⟩ := hsp
    exact ⟨v, σ', H', J'.ofTry ok, r, q⟩
end
/-! ### isinstance of a caught error, its fields -/
def rIsH (K : PySem.W.Frag) : List V → Hp → VK → Prop := fun xs H Q => ∃ (a C dx : Addr) (fs : List (Str × V)) (c : V) (u : Value) (b : Bool),
  xs = [.ref a, c] ∧ H a = some (ExH (.ref C) (some dx) a) ∧ H dx = some (.xd fs) ∧ IsC K C ∧ ClsV c u ∧ PySem.W.kitOne K (.ref C) u = some b ∧ Q (.bl b) H
section
variable {X : Cx}
theorem held_at {pins : List (Addr × Obj)} {σ : L2.St} {H : Hp} {s : Shared} {a C dx : Addr} {fs : List (Str × V)} (I : L2.Inv X pins σ H s) (ea : H a = some (ExH (.ref C) (some dx) a)) (ed : H dx = some (.xd fs)) :
    ∃ (oe : Obj) (od : Obj) (mA : Str → Option Value), PySem.W.InstAt s.heap a oe C (some od) ∧ (∀ name, PySem.W.lookIn name od = some (mA name)) ∧ ∀ f, RelO (fs.lookup f) (mA f) := by
  obtain ⟨⟨oe, vs, ho, hz, hd⟩, _, _⟩ := (show ObjOk X.prog X.w H s.heap a (ExH (.ref C) (some dx) a) from I.hok a _ ea)
  obtain ⟨mA, hns, rel⟩ := (show ObjOk X.prog X.w H s.heap dx (.xd fs) from I.hok dx _ ed)
  obtain ⟨od, hod, hl⟩ := lookIn_ns hns
  exact ⟨oe, od, mA, ⟨ho, hz.1, by unfold PySem.W.notCls; rw [hd] <;> rfl, by rw [hz.2]; exact hod⟩, hl, rel⟩
theorem call_isH : CallR X (.builtin "isinstance") (rIsH X.K) := by
  intro pins s σ H xs us Q I r h
  obtain ⟨a, C, dx, fs, c, u, b, rfl, ea, ed, T, kc, e, q⟩ := h
  obtain ⟨u1, u2, rfl, r1, r2⟩ := vals2 r
  cases kc.eq r2
  cases (show u1 = Value.ref a from r1)
  obtain ⟨oe, od, mA, J, _, _⟩ := held_at I ea ed
  exact PySem.W.kia_one (PySem.W.kitx_exc T.cl T.ga T.gt T.sub T.cls T.get T.tak T.mro) I.kIn J e (fun z => nomatch z) fun tk => ⟨.bl b, H, I.tok tk, rfl, q⟩
def tXh (K : PySem.W.Frag) (f : Str) (te : TE) : TE := fun σ H Q => te σ H fun x H1 => ∃ (a C dx : Addr) (fs : List (Str × V)) (v : V), x = .ref a ∧ XfC K C ∧ PySem.W.findIn K (.ref C) f = some none ∧
  H1 a = some (ExH (.ref C) (some dx) a) ∧ H1 dx = some (.xd fs) ∧ fs.lookup f = some v ∧ Q v H1
theorem pe_xh {e : Expr} {te : TE} {pos : Pos} {f : Str} (he : PE X e te) (hb : attributeBase e f X.env (eval e X.env) = eval e X.env := by rfl) : PE X (.Attribute e f pos) (tXh X.K f te) := by
  constructor
  intro pins s σ H Q I h
  refine attr_of hb (thn (he.run pins s σ H _ I h) ?_)
  rintro u s1 ⟨x, H1, I1, rx, a, C, dx, fs, v, rfl, T, no, ea, ed, l, q⟩
  cases (show u = Value.ref a from rx)
  obtain ⟨oe, od, mA, J, hl, rel⟩ := held_at I1 ea ed
  obtain ⟨u, hu, ru⟩ := RelO.some_of (v := v) (o := mA f) (by rw [← l]; exact rel f)
  exact HandSPX.exc_get I1.kIn J T.ga T.gg T.exC (PySem.W.findObj_own T.hdC no rfl (by rw [hl, hu])) (handed_of ru) ⟨v, H1, I1.tok _, ru, q⟩
end
end Wk
set_option Elab.async false
set_option linter.all false
set_option maxRecDepth 100000
set_option maxHeartbeats 4000000
/-! Error classes with def __init__(self, value): self.value = value, and what the top has left of them and of the module's defs. -/
namespace Wk
open PySem L2
def spInit (C : Addr) : Sp := fun vs H Q _ => ∃ (a : Addr) (v : V), vs = [.ref a, v] ∧ H a = some (exo a C none) ∧
  ∀ dx, H dx = none → dx ≠ a → Q .non (upd (upd H dx (exd dx [("value", v)])) a (exo a C (some dx)))
structure ClsT (K : PySem.W.Frag) (mg : Str → Option Value) (x : Str) (C fI : Addr) : Prop where
  g : mg x = some (.ref C)
  oex : OexC K C
  ini : PySem.W.findIn K (.ref C) "__init__" = some (some (.ref fI))
  ty : PySem.W.typeIn K (.ref fI) = some (.type "function")
  nov : PySem.W.findIn K (.ref C) "value" = some none
  isc : IsC K C
  xf : XfC K C
section
variable {P : Program} {w : World} {K : PySem.W.Frag} {mg : Str → Option Value} {base : Heap}
theorem ok_init {qual : Str} {st : Stmt} {f fI C : Addr} {fd : FuncData} {x : Str} (F : Fun K "__init__" qual st f fd) (S : FnScope ["self", "value"] ["self", "value"] (defScope st))
    (hb : ∃ q1 q2 q3 q4, defBody st = [.Assign [.Attribute (.Name "self" q1) "value" q2] (.Name "value" q3) q4])
    (hv : (defScope st).names = ([("self", .local), ("value", .local)] : List (Str × NameKind))) (T : ClsT K mg x C fI) : FnOk P w K mg base CX0 1 f fd ["self", "value"] (spInit C) := by
  obtain ⟨q1, q2, q3, q4, hb⟩ := hb
  refine F.ok S (fun vs H Q E h => ?_) (fun cdv A outer s H vs Q E hr h => ?_)
  · obtain ⟨a, v, rfl, _⟩ := h
    rfl
  · obtain ⟨a, v, rfl, ha, k⟩ := h
    rw [hb]
    refine ⟨_, pss_one (ps_ost (pe_var (i := 0) rfl ?_) (pe_var (i := 1) rfl ?_)), ?_⟩
    · left
      show (defScope st).names.lookup ("self" : Str) = some .local
      rw [hv]
      decide +kernel
    · left
      show (defScope st).names.lookup ("value" : Str) = some .local
      rw [hv]
      decide +kernel
    · exact ⟨_, rfl, _, rfl, a, C, rfl, T.oex, T.nov, .inl ⟨ha, fun dx n ne => k dx n ne⟩⟩
/-- one class with its __init__, as a caller needs it -/
structure ClsF (P : Program) (w : World) (K : PySem.W.Frag) (mg : Str → Option Value) (base : Heap) (x : Str) (C fI : Addr) (fd : FuncData) : Prop where
  t : ClsT K mg x C fI
  ok : FnOk P w K mg base CX0 1 fI fd ["self", "value"] (spInit C)
  b : Binds K fd ["self", "value"] []
/-- raise X(e) -/
theorem ps_raiseV {X : Cx} {W : WX} {x : Str} {C fI : Addr} {fd : FuncData} {e : Expr} {te : TE} {p pos pos2 : Pos} (F : ClsF X.prog X.w X.K X.mg X.base x C fI fd) (hr : Room 2 X.A) (hc : X.calm = true) (tk : Takes X W) (hg : Gl X x) (he : PE X e te)
    (hdb : (x == ("__debug__" : Str)) = false := by decide) (hs : starEach (e :: []) X.env = (false, eval e X.env) :: starEach [] X.env := by rfl) :
    PS X (.Raise (some (.Call (.Name x p) [e] [] pos)) none pos2) (fun _ σ H => tMkO C (spInit C) [] (tCons te tNil) σ H fun cls d H' => W cls d σ H') :=
  ps_raise hc tk (pmk_oex F.t.oex F.t.ini F.t.ty F.ok hr F.b .nil pass0 hg F.t.g (pa_cons he pa_nil hs) hdb hs)
/-- its reading: the error with a new dict that holds the value -/
theorem mk_read {C : Addr} {v : V} {H : Hp} {Q : XK} (k : ∀ d H', H d = none → Same H H' → H' d = some (.xd [("value", v)]) → Q (.ref C) (some d) H') :
    ([v] : List V).length ≤ 1000 ∧ ∀ a, H a = none → spInit C (.ref a :: ([v] ++ [])) (upd H a (exo a C none))
      (fun z H2 => z = .non ∧ ∃ (d : Addr) (fs : List (Str × V)), H2 a = some (exo a C (some d)) ∧ H2 d = some (exd d fs) ∧ H d = none ∧ Q (.ref C) (some d) (upd (del H2 a) d (.xd fs))) (fun _ _ _ => False) := by
  refine ⟨by show 1 ≤ 1000; decide, fun a na => ⟨a, v, rfl, upd_same, fun dx nx ne => ⟨rfl, dx, _, upd_same, by rw [upd_ne ne, upd_same], ?_, ?_⟩⟩⟩
  · rw [upd_ne ne] at nx
    exact nx
  · rw [upd_ne ne] at nx
    refine k dx _ nx (fun b o e => ?_) upd_same
    have ba : b ≠ a := ne_of_none e na
    have bx : b ≠ dx := ne_of_none e nx
    rw [upd_ne bx, del_ne ba, upd_ne ba, upd_ne bx, upd_ne ba]
    exact e
end
/-! ### what the top has written -/
def DefAt (K : PySem.W.Frag) (x : Str) (st : Stmt) (f : Addr) : Prop := PySem.W.nsIn K mainGlobals x = some (some (.ref f)) ∧
  (∃ (oc : Value) (od : Option Addr) (kV doc pm : Value) (an : Option Addr) (cdv ct : Value) (osl : Array (Option Value)),
    K.lookup f = some ⟨oc, od, .func (PySem.W.fnOf x x (defArgs st) (defBody st) (defScope st) .none kV doc pm an cdv ct), osl⟩ ∧ PySem.W.codeIn K cdv x = true) ∧ PySem.W.keepIn K (.ref f) = true
theorem def_at {K : PySem.W.Frag} {x : Str} {st : Stmt} {f : Addr} {oc : Value} {od : Option Addr} {kV doc pm : Value} {an : Option Addr} {cdv ct : Value} {osl : Array (Option Value)} (a : PySem.W.nsIn K mainGlobals x = some (some (.ref f)))
    (l : K.lookup f = some ⟨oc, od, .func (PySem.W.fnOf x x (defArgs st) (defBody st) (defScope st) .none kV doc pm an cdv ct), osl⟩) (c : PySem.W.codeIn K cdv x = true) (k : PySem.W.keepIn K (.ref f) = true) : DefAt K x st f :=
  ⟨a, ⟨_, _, _, _, _, _, _, _, _, l, c⟩, k⟩
structure ClsAt (K : PySem.W.Frag) (x q : Str) (st : Stmt) (C fI : Addr) : Prop where
  ns : PySem.W.nsIn K mainGlobals x = some (some (.ref C))
  obj : ∃ nm qn N bs bm sn sub ab col dd k0 k1 k2 k3 k5, K.lookup C = some (excClassObj nm qn C N bs bm true sn sub ab col dd k0 k1 k2 k3 k5 "ValueError.__new__") ∧ PySem.HandSPX.refsVE bm = true
  ini : PySem.W.findIn K (.ref C) "__init__" = some (some (.ref fI))
  ty : PySem.W.typeIn K (.ref fI) = some (.type "function")
  fn : ∃ (oc : Value) (od : Option Addr) (kV doc pm : Value) (an : Option Addr) (cdv ct : Value) (osl : Array (Option Value)),
    K.lookup fI = some ⟨oc, od, .func (PySem.W.fnOf "__init__" q (defArgs st) (defBody st) (defScope st) .none kV doc pm an cdv ct), osl⟩ ∧ PySem.W.codeIn K cdv q = true
  kI : PySem.W.keepIn K (.ref fI) = true
  sa : PySem.W.findIn K (.ref C) "__setattr__" = some (some (.builtin "object.__setattr__"))
  tyC : PySem.W.typeIn K (.ref C) = some (.type "type")
  kC : PySem.W.keepIn K (.ref C) = true
  hd : PySem.W.hasDictIn K C = true
  nv : PySem.W.findIn K (.ref C) "value" = some none
  is : IsC K C
theorem cls_at {K : PySem.W.Frag} {x q : Str} {st : Stmt} {C fI : Addr} {oc : Value} {od : Option Addr} {kV doc pm : Value} {an : Option Addr} {cdv ct : Value} {osl : Array (Option Value)}
    {nm qn : Str} {N : Addr} {bs bm : List Value} {sn : List Str} {sub : List Value} {ab : Bool} {col : Option Bool} {dd : Option Addr} {k0 k1 k2 k3 k5 : Option Value}
    (a : PySem.W.nsIn K mainGlobals x = some (some (.ref C))) (ob : K.lookup C = some (excClassObj nm qn C N bs bm true sn sub ab col dd k0 k1 k2 k3 k5 "ValueError.__new__")) (ve : PySem.HandSPX.refsVE bm = true)
    (ini : PySem.W.findIn K (.ref C) "__init__" = some (some (.ref fI))) (ty : PySem.W.typeIn K (.ref fI) = some (.type "function"))
    (l : K.lookup fI = some ⟨oc, od, .func (PySem.W.fnOf "__init__" q (defArgs st) (defBody st) (defScope st) .none kV doc pm an cdv ct), osl⟩) (co : PySem.W.codeIn K cdv q = true) (kI : PySem.W.keepIn K (.ref fI) = true)
    (sa : PySem.W.findIn K (.ref C) "__setattr__" = some (some (.builtin "object.__setattr__"))) (tyC : PySem.W.typeIn K (.ref C) = some (.type "type")) (kC : PySem.W.keepIn K (.ref C) = true) (hd : PySem.W.hasDictIn K C = true)
    (nv : PySem.W.findIn K (.ref C) "value" = some none) (is : IsC K C) : ClsAt K x q st C fI :=
  ⟨a, ⟨_, _, _, _, _, _, _, _, _, _, _, _, _, _, _, ob, ve⟩, ini, ty, ⟨_, _, _, _, _, _, _, _, _, l, co⟩, kI, sa, tyC, kC, hd, nv, is⟩
theorem ClsAt.t {K : PySem.W.Frag} {mg : Str → Option Value} {h : Heap} {x q : Str} {st : Stmt} {C fI : Addr} (A : ClsAt K x q st C fI) (X : K.In h) (G : h.Ns mainGlobals mg) : ClsT K mg x C fI where
  g := PySem.W.mg_of X G A.ns
  oex := ⟨A.obj, A.sa, A.is.sub, A.tyC, A.kC⟩
  ini := A.ini
  ty := A.ty
  nov := A.nv
  isc := A.is
  xf := ⟨A.is.ga, A.is.gt, A.is.sub, A.hd⟩
theorem ClsAt.f {P : Program} {w : World} {K : PySem.W.Frag} {mg : Str → Option Value} {h base : Heap} {x q : Str} {st : Stmt} {C fI : Addr} (A : ClsAt K x q st C fI) (X : K.In h) (G : h.Ns mainGlobals mg)
    (S : FnScope ["self", "value"] ["self", "value"] (defScope st)) (hb : ∃ q1 q2 q3 q4, defBody st = [.Assign [.Attribute (.Name "self" q1) "value" q2] (.Name "value" q3) q4])
    (hv : (defScope st).names = ([("self", .local), ("value", .local)] : List (Str × NameKind)))
    (b2 : ∀ (kV doc pm : Value) (an : Option Addr) (cdv ct : Value) (us : List Value), us.length = (["self", "value"] : List Str).length → bindArgs (PySem.W.fnOf "__init__" q (defArgs st) (defBody st) (defScope st) .none kV doc pm an cdv ct) ⟨us, []⟩ = pure ((["self", "value"] : List Str).zip us)) :
    ∃ fd : FuncData, ClsF P w K mg base x C fI fd := by
  obtain ⟨oc, od, kV, doc, pm, an, cdv, ct, osl, l, c⟩ := A.fn
  have Fm := fun_mk (st := st) l c A.kI
  exact ⟨_, A.t X G, ok_init Fm S hb hv (A.t X G), Fm.binds (ps := ["self", "value"]) b2⟩
/-- a def that another one calls: nothing leaves it -/
structure Def1 (P : Program) (w : World) (K : PySem.W.Frag) (mg : Str → Option Value) (base : Heap) (x : Str) (k : Nat) (f : Addr) (fd : FuncData) (ps : List Str) (sp : Sp) : Prop where
  ok : FnOk P w K mg base CX0 k f fd ps sp
  g : mg x = some (.ref f)
  k : PySem.W.keepIn K (.ref f) = true
  b : Binds K fd ps []
end Wk
set_option Elab.async false
set_option linter.all false
set_option maxRecDepth 100000
set_option maxHeartbeats 4000000
namespace LB
open PySem L2 Wk
/-! ### the text by places -/
def top (i : Nat) : Stmt := PySem.Challenge.pw_wordorder_k48_whole_orders_and_places.main.body.getD i (.Pass ⟨0, 0, 0, 0⟩)
abbrev sWall : Stmt := top 0
abbrev cOrderError : Stmt := top 2
abbrev cInvalidTable : Stmt := top 3
abbrev cInvalidNumber : Stmt := top 4
abbrev cInvalidRange : Stmt := top 5
abbrev sIsWord : Stmt := top 10
abbrev sCheck : Stmt := top 11
abbrev sLimit : Stmt := top 12
abbrev sTopOf : Stmt := top 13
abbrev sCopied : Stmt := top 14
abbrev sCheckNum : Stmt := top 16
abbrev sSpelled : Stmt := top 17
abbrev sGroupsOf : Stmt := top 18
abbrev sGroupWords : Stmt := top 19
abbrev sWorths : Stmt := top 20
abbrev cHiddenTable : Stmt := top 22
abbrev sFind : Stmt := top 23
abbrev sScaleNums : Stmt := top 24
abbrev sBehind : Stmt := top 25
abbrev sSpotP : Stmt := top 26
abbrev sStart : Stmt := top 29
abbrev sVocab : Stmt := top 30
abbrev sFollowed : Stmt := top 31
abbrev sSteps : Stmt := top 32
abbrev sOwn : Stmt := top 33
abbrev sEnds : Stmt := top 34
abbrev sCount : Stmt := top 35
abbrev sPlaceW : Stmt := top 36
abbrev sNumW : Stmt := top 37
abbrev sHas : Stmt := top 38
abbrev sOverlap : Stmt := top 39
abbrev sSame : Stmt := top 41
abbrev sParting : Stmt := top 42
abbrev sBegin : Stmt := top 43
abbrev sOneLonger : Stmt := top 44
abbrev sBelow : Stmt := top 46
abbrev sPlace : Stmt := top 47
abbrev sNumAt : Stmt := top 48
abbrev sCheckRng : Stmt := top 50
abbrev sCountB : Stmt := top 51
abbrev sBefore : Stmt := top 52
abbrev sAfter : Stmt := top 53
abbrev sInOrder : Stmt := top 54
abbrev sLeading : Stmt := top 55
abbrev sPool : Stmt := top 57
abbrev sDraw : Stmt := top 58
abbrev sEnglish : Stmt := top 59
abbrev sShort : Stmt := top 60
abbrev sLonger : Stmt := top 61
abbrev sBook : Stmt := top 62
abbrev sPower : Stmt := top 63
abbrev sValue : Stmt := top 64
abbrev sNear : Stmt := top 65
abbrev sTold : Stmt := top 66
abbrev sAlikeRight : Stmt := top 67
abbrev sHiddenRight : Stmt := top 68
abbrev sRight : Stmt := top 69
abbrev sLaw : Stmt := top 70
end LB
set_option Elab.async false
set_option linter.all false
set_option maxRecDepth 100000
set_option maxHeartbeats 4000000
/-! Family B: the source of draws. -/
namespace LB
open PySem L2 Wk
/-! ### powers of greater numbers -/
def CPowB (i j : Int) : Prop := 0 ≤ j ∧ (Builtin.Int.intBits i : Int) * j ≤ 2 ^ 27
theorem op_powB {X : Cx} : OpR X (binaryOp .Pow) (rI CPowB fun i j => .int (i ^ j.toNat)) := opI fun _ _ _ _ _ _ _ hc q => PyProof.Rows.pow_int hc.1 hc.2 q
theorem bits_le {i : Int} {a : Nat} (h : i.natAbs < 2 ^ a) (h0 : 0 < a) : Builtin.Int.intBits i ≤ a := by
  have z := PySem.Flt.log2_lt_of h0 h
  unfold Builtin.Int.intBits
  split <;> omega
theorem cube_ok {i : Int} (h : i.natAbs < 2 ^ 1000) : CPowB i 3 := by
  have z := bits_le h (by decide)
  exact ⟨by decide, by omega⟩
/-! ### rng -/
structure RngAt (H : Hp) (p : Addr) (d s c : Int) : Prop where
  at_ : H p = some (.lst [.int d, .int s, .int c])
  d0 : 0 ≤ d
  s0 : 0 ≤ s
  s1 : s < 2305843009213693951
  c0 : 0 ≤ c
def spRng (K : PySem.W.Frag) : Sp := fun vs H Q _ => ∃ (a : Addr) (ns : List Int), vs = [.ref a] ∧ SqL K H a (ns.map V.int) ∧ ns.length ≤ 63 ∧
  ∀ (p : Addr) (d s : Int) (H' : Hp), H p = none → RngAt H' p d s 0 → Same H H' → Q (.ref p) H'
/-- a draw below upper; the source alone changes, its counter by at most one -/
def spDraw : Sp := fun vs H Q _ => ∃ (p : Addr) (d s c upper : Int), vs = [.ref p, .int upper] ∧ RngAt H p d s c ∧ 0 < upper ∧ upper.natAbs < 2 ^ 1000 ∧ c < 2 ^ 30 ∧
  ∀ (r d' c' : Int) (H' : Hp), 0 ≤ r → r < upper → c' ≤ c + 1 → RngAt H' p d' s c' → (∀ q o, H q = some o → q ≠ p → H' q = some o) → Q (.int r) H'
/-- one great cell more: the digits stay below a power of two -/
theorem digits_step {d m : Int} {i N : Nat} (hN : N ≤ 2 ^ 200) (d0 : 0 ≤ d) (d1 : d.natAbs < 2 ^ (200 * i + 1)) (m0 : 0 ≤ m) (m1 : m < (N : Int)) : (d * (N : Int) + m).natAbs < 2 ^ (200 * (i + 1) + 1) := by
  obtain ⟨n, rfl⟩ : ∃ n : Nat, d = (n : Int) := ⟨d.toNat, by omega⟩
  obtain ⟨q, rfl⟩ : ∃ q : Nat, m = (q : Int) := ⟨m.toNat, by omega⟩
  have n1 : n < 2 ^ (200 * i + 1) := d1
  have q1 : q < N := by omega
  have e : ((n : Int) * (N : Int) + (q : Int)) = ((n * N + q : Nat) : Int) := by
    rw [Int.natCast_add, Int.natCast_mul]
  rw [e]
  show n * N + q < 2 ^ (200 * (i + 1) + 1)
  rw [show 200 * (i + 1) + 1 = 200 * i + 1 + 200 by omega, Nat.pow_add]
  have a2 : (n + 1) * N ≤ 2 ^ (200 * i + 1) * N := Nat.mul_le_mul_right _ n1
  have a3 : 2 ^ (200 * i + 1) * N ≤ 2 ^ (200 * i + 1) * 2 ^ 200 := Nat.mul_le_mul_left _ hN
  rw [Nat.succ_mul] at a2
  generalize 2 ^ (200 * i + 1) * 2 ^ 200 = Z at a3
  omega
section
variable {P : Program} {w : World} {K : PySem.W.Frag} {mg : Str → Option Value} {base : Heap}
end
end LB
set_option Elab.async false
set_option linter.all false
set_option maxRecDepth 100000
set_option maxHeartbeats 4000000
/-! Family B: tables of drawn words. -/
namespace LB
open PySem L2 Wk
/-! ### words -/
def GoodWord (x : Str) : Prop := 1 ≤ x.length ∧ x.length ≤ 20 ∧ ∀ c ∈ x.cps.toList, 97 ≤ c ∧ c ≤ 122
def goodB (x : Str) : Bool := decide (1 ≤ x.length) && (decide (x.length ≤ 20) && x.cps.toList.all fun c => decide (97 ≤ c) && decide (c ≤ 122))
theorem goodB_ok {x : Str} (h : goodB x = true) : GoodWord x := by
  unfold goodB at h
  simp only [Bool.and_eq_true, decide_eq_true_eq, List.all_eq_true] at h
  exact ⟨h.1, h.2.1, fun c hc => h.2.2 c hc⟩
/-- the words of a table, in its order: all different, each a word -/
structure GoodRow (ws : List Str) : Prop where
  nd : ws.Nodup
  ok : ∀ x ∈ ws, GoodWord x
theorem GoodRow.perm {ws us : List Str} (g : GoodRow ws) (h : List.Perm us ws) : GoodRow us := ⟨h.nodup_iff.mpr g.nd, fun x hx => g.ok x (h.mem_iff.mp hx)⟩
theorem GoodRow.left {ws us : List Str} (g : GoodRow (ws ++ us)) : GoodRow ws := ⟨(List.nodup_append.mp g.nd).1, fun x hx => g.ok x (List.mem_append_left _ hx)⟩
theorem erase_perm {α : Type} {l : List α} {i : Nat} {x : α} (h : l[i]? = some x) : List.Perm (x :: l.eraseIdx i) l := by
  obtain ⟨hi, e⟩ := List.getElem?_eq_some_iff.mp h
  have z := List.take_append_drop i l
  rw [List.drop_eq_getElem_cons hi, e] at z
  rw [List.eraseIdx_eq_take_drop_succ]
  have p : List.Perm (l.take i ++ x :: l.drop (i + 1)) (x :: (l.take i ++ l.drop (i + 1))) := List.perm_middle
  rw [z] at p
  exact p.symm
/-! ### _law_twice -/
def twice (ws : List Str) : List Str := ws.flatMap fun x => [x ++ "a", x ++ "b"]
def spTwice (K : PySem.W.Frag) : Sp := fun vs H Q _ => ∃ (a : Addr) (ws : List Str), vs = [.ref a] ∧ SqL K H a (ws.map V.str) ∧ ws.length ≤ 100 ∧ (∀ x ∈ ws, x.length ≤ 1000) ∧
  ∀ (p : Addr) (H' : Hp), H p = none → H' p = some (.lst ((twice ws).map V.str)) → Same H H' → Q (.ref p) H'
section
variable {P : Program} {w : World} {K : PySem.W.Frag} {mg : Str → Option Value} {base : Heap}
end
/-! ### _law_sheet -/
def pool0 : List Str := Txt.split ("zero one two three four five six seven eight nine ten eleven twelve thirteen fourteen fifteen" ++ " sixteen seventeen eighteen nineteen twenty thirty forty fifty sixty seventy eighty" ++ " ninety hundred") " "
def usual29 : List Str := ["zero", "one", "two", "three", "four", "five", "six", "seven", "eight", "nine", "ten", "eleven", "twelve", "thirteen", "fourteen", "fifteen", "sixteen", "seventeen", "eighteen", "nineteen",
  "twenty", "thirty", "forty", "fifty", "sixty", "seventy", "eighty", "ninety", "hundred"]
theorem pool0_is : pool0 = usual29 := by decide +kernel
def poolA : List Str := (usual29 ++ (["thousand", "mil", "milliard", "z", "thousandth", "aa", "hun", "sixt", "o", "ones", "tw"] : List Str)) ++ (["f", "fo", "fiv", "e", "ee", "eee", "qq", "qqq", "y"] : List Str)
def longer0 : List Str := ["a", "b"]
def longerN : Nat → List Str
  | 0 => longer0
  | n + 1 => twice (longerN n)
def poolN : Nat → List Str
  | 0 => []
  | n + 1 => poolN n ++ longerN n
theorem poolA_good : GoodRow poolA ∧ poolA.length = 49 := by
  have e : poolA.all goodB = true := by decide +kernel
  have n : poolA.Nodup := by decide +kernel
  have l : poolA.length = 49 := by decide +kernel
  exact ⟨⟨n, fun x hx => goodB_ok (List.all_eq_true.mp e x hx)⟩, l⟩
theorem poolB_good : GoodRow (poolN 5) ∧ (poolN 5).length = 62 := by
  have e : (poolN 5).all goodB = true := by decide +kernel
  have n : (poolN 5).Nodup := by decide +kernel
  have l : (poolN 5).length = 62 := by decide +kernel
  exact ⟨⟨n, fun x hx => goodB_ok (List.all_eq_true.mp e x hx)⟩, l⟩
theorem small5 : ∀ i : Fin 5, (poolN i.1).length + (longerN i.1).length ≤ 100 ∧ (longerN i.1).length ≤ 100 ∧ (longerN i.1).all (fun x => decide (x.length ≤ 1000)) = true := by decide +kernel
theorem cut_a {l : List Str} {k : Nat} (h : k ≤ l.length) : cutV (l.map V.str) none (some (k : Int)) = (l.take k).map V.str := by
  unfold cutV
  rw [HT.sIx_none, HT.sIx_nat, List.length_map, Nat.min_eq_left h, List.drop_zero, Nat.sub_zero, List.map_take]
theorem cut_b {l : List Str} {k j : Nat} (h : k ≤ l.length) (hj : j ≤ l.length) : cutV (l.map V.str) (some (k : Int)) (some (j : Int)) = ((l.drop k).take (j - k)).map V.str := by
  unfold cutV
  rw [HT.sIx_nat, HT.sIx_nat, List.length_map, Nat.min_eq_left h, Nat.min_eq_left hj, List.map_take, List.map_drop]
theorem cut_c {l : List Str} {k : Nat} (h : k ≤ l.length) : cutV (l.map V.str) (some (k : Int)) none = (l.drop k).map V.str := by
  unfold cutV
  rw [HT.sIx_nat, HT.sIx_none, List.length_map, Nat.min_eq_left h, ← List.map_drop, ← List.map_take, List.take_of_length_le (by rw [List.length_drop]; exact Nat.le_refl _)]
end LB
set_option Elab.async false
set_option linter.all false
set_option maxRecDepth 100000
set_option maxHeartbeats 4000000
/-! Family D: the pool of draws. -/
namespace LB
open PySem L2 Wk
structure RngAtD (H : Hp) (p : Addr) (d s c : Int) : Prop where
  at_ : H p = some (.lst [.int d, .int s, .int c])
  d0 : 0 ≤ d
  s0 : 0 ≤ s
  s1 : s < 2305844009213693951
  c0 : 0 ≤ c
theorem five_ok {i : Int} (h : i.natAbs < 2 ^ 1000) : CPowB i 5 := by
  have z := bits_le h (by decide)
  exact ⟨by decide, by omega⟩
def spPool (K : PySem.W.Frag) : Sp := fun vs H Q _ => ∃ (a : Addr) (ns : List Int) (i : Nat), vs = [.ref a, .int (i : Int)] ∧ SqL K H a (ns.map V.int) ∧ i ≤ 63 ∧
  ∀ (p : Addr) (d s : Int) (H' : Hp), H p = none → RngAtD H' p d s 0 → Same H H' → Q (.ref p) H'
/-- a draw below many; the pool alone changes, its counter by at most one -/
def spDrawD : Sp := fun vs H Q _ => ∃ (p : Addr) (d s c upper : Int), vs = [.ref p, .int upper] ∧ RngAtD H p d s c ∧ 0 < upper ∧ upper.natAbs < 2 ^ 1000 ∧ c < 2 ^ 30 ∧
  ∀ (r d' c' : Int) (H' : Hp), 0 ≤ r → r < upper → c' ≤ c + 1 → RngAtD H' p d' s c' → (∀ q o, H q = some o → q ≠ p → H' q = some o) → Q (.int r) H'
section
variable {P : Program} {w : World} {K : PySem.W.Frag} {mg : Str → Option Value} {base : Heap}
theorem scPool : FnScope ["script", "at", "cell"] ["script", "at"] (defScope sPool) := ⟨rfl, rfl, rfl, by decide +kernel, rfl, by decide +kernel, by decide +kernel⟩
theorem ok_pool {f : Addr} {fd : FuncData} (F : Fun K "_law_pool" "_law_pool" sPool f fd) (mL : mg "len" = none) (mX : mg "max" = none) (mA : mg "abs" = none) : FnOk P w K mg base CX0 1 f fd ["script", "at"] (spPool K) := by
  refine F.ok scPool (fun vs H Q E h => ?_) (fun cdv A outer s H vs Q E hr h => ?_)
  · obtain ⟨a, ns, i, rfl, _⟩ := h
    rfl
  · obtain ⟨a, ns, i, rfl, hS, hi, k⟩ := h
    refine ⟨_, pss_cons (ps_set (i := 2) scPool.nd rfl (.inl rfl) pe_int)
      (pss_mid (ps_if (pt_cmpR op_lt (pv 1) (pe_callB call_len_seq (by rfl) mL PySem.boot_len (pa_cons (pv 0) pa_nil)) (nomark _)) (pss_one (ps_set (i := 2) scPool.nd rfl (.inl rfl) (pe_ix ix_list (pv 0) (pv 1) (fun _ _ => rfl)))) pss_nil)
      (pss_one (ps_ret (pe_lst (pa_cons (pe_callB (call_max2 rfl) (by rfl) mX (by decide +kernel) (pa_cons pe_int (pa_cons (pe_op op_sub (pe_callB call_abs (by rfl) mA (by decide +kernel) (pa_cons (pv 2) pa_nil)) (pe_op op_pow pe_int pe_int)) pa_nil)))
        (pa_cons (pe_op op_add (pe_op op_mod (pv 2) pe_int) (pe_op op_mul pe_int (pe_op op_add (pv 1) pe_int))) (pa_cons pe_int pa_nil))))))), ?_⟩
    refine ⟨fun τ H2 => H2 = H ∧ ∃ z : Int, τ = [some (.ref a), some (.int (i : Int)), some (.int z)], ?_, ?_⟩
    · refine ⟨_, rfl, _, rfl, a, _, rfl, .inl hS, _, _, rfl, rfl, _, rfl, ite2 (fun c1 => ?_) (fun c1 => ?_)⟩
      · have c2 := of_decide_eq_true c1
        rw [List.length_map] at c2
        have c3 : i < ns.length := by omega
        exact ⟨_, rfl, _, rfl, a, _, _, _, rfl, rfl, hS, atI_nat (j := i) (v := .int ns[i]) (by rw [List.getElem?_map, List.getElem?_eq_getElem c3]; rfl), rfl, ns[i], rfl⟩
      · exact ⟨rfl, 0, rfl⟩
    rintro τ H2 ⟨rfl, z, rfl⟩
    have v0 : 0 ≤ z % 2305843009213693951 := Int.emod_nonneg _ (by decide)
    have v1 : z % 2305843009213693951 < 2305843009213693951 := Int.emod_lt_of_pos _ (by decide)
    refine ⟨_, rfl, _, rfl, _, _, rfl, rfl, ⟨by decide, by decide, by decide⟩, _, _, rfl, rfl, _, _, rfl, ?_⟩
    refine ⟨_, rfl, _, _, rfl, rfl, (by show (0 : Int) < 2305843009213693951; decide), _, rfl, _, _, rfl, rfl, _, _, rfl, rfl, .inl ⟨by decide, by decide⟩, _, _, rfl, rfl, by show 3 ≤ sizeLine; decide, fun p np => ?_⟩
    refine k p _ _ _ np ⟨upd_same, ?_, by omega, by omega, by decide⟩ fun b o e => ?_
    · split <;> omega
    · rw [upd_ne (ne_of_none e np)]
      exact e
theorem scDrawD : FnScope ["pool", "many", "drawn", "mixed"] ["pool", "many"] (defScope sDraw) := ⟨rfl, rfl, rfl, by decide +kernel, rfl, by decide +kernel, by decide +kernel⟩
theorem ok_drawD {f : Addr} {fd : FuncData} (F : Fun K "_law_draw" "_law_draw" sDraw f fd) : FnOk P w K mg base CX0 1 f fd ["pool", "many"] spDrawD := by
  refine F.ok scDrawD (fun vs H Q E h => ?_) (fun cdv A outer s H vs Q E hr h => ?_)
  · obtain ⟨p, d, s, c, u, rfl, _⟩ := h
    rfl
  · obtain ⟨p, d, sd, c, u, rfl, B, u0, u9, c30, k⟩ := h
    refine ⟨_, pss_cons (ps_if (pt_cmpR op_gt (pe_ix ix_list (pv 0) pe_int (fun _ _ => rfl)) pe_int (nomark _))
        (pss_cons (ps_set (i := 2) scDrawD.nd rfl (.inl rfl) (pe_op op_mod (pe_ix ix_list (pv 0) pe_int (fun _ _ => rfl)) (pv 1)))
        (pss_cons (ps_asg (pe_op op_fdivW (pe_ix ix_list (pv 0) pe_int (fun _ _ => rfl)) (pv 1)) (pg_sub (pv 0) pe_int set_list))
        (pss_one (ps_ret (pv 2))))) pss_nil)
      (pss_cons (ps_asg (pe_op op_add (pe_ix ix_list (pv 0) pe_int (fun _ _ => rfl)) pe_int) (pg_sub (pv 0) pe_int set_list))
      (pss_cons (ps_set (i := 3) scDrawD.nd rfl (.inl rfl) (pe_op op_mod (pe_op op_pow (pe_op op_add (pe_ix ix_list (pv 0) pe_int (fun _ _ => rfl)) (pe_op op_mul pe_int (pe_ix ix_list (pv 0) pe_int (fun _ _ => rfl)))) pe_int) pe_int))
      (pss_cons (ps_set (i := 3) scDrawD.nd rfl (.inl rfl) (pe_op op_mod (pe_op op_powB (pe_op op_add (pv 3) (pe_op op_mul pe_int (pe_ix ix_list (pv 0) pe_int (fun _ _ => rfl)))) pe_int) pe_int))
      (pss_one (ps_ret (pe_op op_mod (pe_op op_fdiv (pv 3) pe_int) (pv 1))))))), ?_⟩
    have a0 : atI [V.int d, V.int sd, V.int c] 0 = some (.int d) := rfl
    have a1 : ∀ e : Int, atI [V.int d, V.int sd, V.int e] 1 = some (.int sd) := fun _ => rfl
    have a2 : ∀ e : Int, atI [V.int d, V.int sd, V.int e] 2 = some (.int e) := fun _ => rfl
    have i0 : ixN [V.int d, V.int sd, V.int c].length 0 = some 0 := rfl
    have i2 : ixN [V.int d, V.int sd, V.int c].length 2 = some 2 := rfl
    refine ⟨_, rfl, _, _, _, _, rfl, rfl, SqL.of B.at_, a0, _, _, rfl, rfl, _, rfl, ?_⟩
    refine ite2 (fun c1 => ?_) (fun c1 => ?_)
    · refine ⟨_, rfl, _, _, _, _, rfl, rfl, SqL.of B.at_, a0, _, rfl, _, _, rfl, rfl, u0, ?_⟩
      refine ⟨_, rfl, _, _, _, _, rfl, rfl, SqL.of B.at_, a0, _, rfl, _, _, rfl, rfl, wide_div u0 u9 (by decide) (by decide), ?_⟩
      refine ⟨_, rfl, p, _, _, _, rfl, rfl, B.at_, i0, _, rfl, ?_⟩
      refine k (d % u) (d / u) c _ (Int.emod_nonneg _ (by omega)) (Int.emod_lt_of_pos _ u0) (by omega) ⟨upd_same, Int.ediv_nonneg B.d0 (by omega), B.s0, B.s1, B.c0⟩ fun q o e n => ?_
      rw [upd_ne n]
      exact e
    · have c0 := B.c0
      have s0 := B.s0
      have s1 := B.s1
      refine ⟨_, rfl, _, _, _, _, rfl, rfl, SqL.of B.at_, a2 c, _, _, rfl, rfl, _, rfl, p, _, _, _, rfl, rfl, B.at_, i2, ?_⟩
      have B2 : RngAtD (upd H p (.lst ([V.int d, V.int sd, V.int c].set 2 (V.int (c + 1))))) p d sd (c + 1) := ⟨upd_same, B.d0, B.s0, B.s1, by omega⟩
      have v0 : ∀ v : Int, 0 ≤ v % 162259276829213363391578010288127 := fun v => Int.emod_nonneg _ (by decide)
      have v1 : ∀ v : Int, v % 162259276829213363391578010288127 < 162259276829213363391578010288127 := fun v => Int.emod_lt_of_pos _ (by decide)
      refine ⟨_, rfl, _, _, _, _, rfl, rfl, SqL.of B2.at_, a1 _, _, rfl, _, _, _, _, rfl, rfl, SqL.of B2.at_, a2 _, _, _, rfl, rfl, .inl ⟨by decide, by decide⟩, _, _, rfl, rfl, _, _, rfl, rfl, ⟨by decide, by decide, by omega⟩, _, _, rfl, rfl, (by show (0 : Int) < 162259276829213363391578010288127; decide), ?_⟩
      have w0 := v0 ((sd + 15501043 * (c + 1)) ^ 3)
      have w1 := v1 ((sd + 15501043 * (c + 1)) ^ 3)
      refine ⟨_, rfl, _, rfl, _, _, _, _, rfl, rfl, SqL.of B2.at_, a2 _, _, _, rfl, rfl, .inl ⟨by decide, by decide⟩, _, _, rfl, rfl, _, _, rfl, rfl, five_ok ?_, _, _, rfl, rfl, (by show (0 : Int) < 170141183460469231731687303715884105727; decide), ?_⟩
      · show ((sd + 15501043 * (c + 1)) ^ 3 % 162259276829213363391578010288127 + 32460011 * (c + 1)).natAbs < 2 ^ 1000
        generalize (sd + 15501043 * (c + 1)) ^ 3 % 162259276829213363391578010288127 = v at w0 w1
        have big : (2 : Nat) ^ 110 ≤ 2 ^ 1000 := Nat.pow_le_pow_right (by decide) (by decide)
        refine Nat.lt_of_lt_of_le ?_ big
        omega
      · refine ⟨_, rfl, _, _, rfl, rfl, ⟨by decide, by decide⟩, _, rfl, _, _, rfl, rfl, u0, ?_⟩
        refine k _ d (c + 1) _ (Int.emod_nonneg _ (by omega)) (Int.emod_lt_of_pos _ u0) (by omega) B2 fun q o e n => ?_
        rw [upd_ne n]
        exact e
end
end LB
set_option Elab.async false
set_option linter.all false
set_option maxRecDepth 100000
set_option maxHeartbeats 4000000
namespace LB
open PySem L2 Wk
/-- a table of words stands in the heap -/
structure TabAt (H : Hp) (t : Addr) (ones tens : List Str) (hun : Str) (scales : List Str) (o te sc : Addr) : Prop where
  tup : H t = some (.tup [.ref o, .ref te, .str hun, .ref sc])
  lo : H o = some (.lst (ones.map V.str))
  lt : H te = some (.lst (tens.map V.str))
  ls : H sc = some (.lst (scales.map V.str))
def spSheet : Sp := fun vs H Q _ => ∃ (p : Addr) (d s c most : Int), vs = [.ref p, .int most] ∧ RngAt H p d s c ∧ 0 ≤ most ∧ most ≤ 20 ∧ c < 2 ^ 29 ∧
  ∀ (t o te sc : Addr) (ones tens : List Str) (hun : Str) (scales : List Str) (d' c' : Int) (H' : Hp), H t = none → H o = none → H te = none → H sc = none → o ≠ te → o ≠ sc → te ≠ sc → TabAt H' t ones tens hun scales o te sc →
    ones.length = 20 → tens.length = 8 → (scales.length : Int) ≤ most → GoodRow (ones ++ (tens ++ hun :: scales)) → RngAt H' p d' s c' → c' ≤ c + 100 → (∀ q o, H q = some o → q ≠ p → H' q = some o) → Q (.ref t) H'
theorem erase_map {α β : Type} {g : α → β} {l : List α} {k : Nat} : (l.map g).eraseIdx k = (l.eraseIdx k).map g := by
  rw [List.eraseIdx_eq_take_drop_succ, List.eraseIdx_eq_take_drop_succ, List.map_append, List.map_take, List.map_drop]
theorem seqIndex_nat {n k : Nat} (h : k < n) : seqIndex? (k : Int) n = some k := by
  have e := PySem.seqIndex_of (k := (k : Int)) (n := n) (by omega) (by omega)
  rw [Int.toNat_natCast] at e
  exact e
section
variable {P : Program} {w : World} {K : PySem.W.Frag} {mg : Str → Option Value} {base : Heap}
end
end LB
set_option Elab.async false
set_option linter.all false
set_option maxRecDepth 100000
set_option maxHeartbeats 4000000
/-! The program's own: is_word, check_table, limit, for valid tables. -/
namespace LB
open PySem L2 Wk
theorem chars : ∀ c : Fin 128, (Unicode.isAlpha c.1 && !(Unicode.isUpper c.1 || Unicode.isTitle c.1)) = (decide (97 ≤ c.1) && decide (c.1 ≤ 122)) ∧ (97 ≤ c.1 → c.1 ≤ 122 → Unicode.isLower c.1 = true) := by decide +kernel
theorem GoodWord.tests {x : Str} (g : GoodWord x) : Txt.isascii x = true ∧ Txt.isalpha x = true ∧ Txt.islower x = true := by
  obtain ⟨h1, h2, h3⟩ := g
  have low : ∀ c ∈ x.cps.toList, c < 128 := fun c hc => by have := h3 c hc; omega
  have len : x.length = x.cps.toList.length := by
    show x.cps.size = _
    rw [Array.length_toList]
  refine ⟨?_, ?_, ?_⟩
  · unfold Txt.isascii
    rw [Array.all_eq_true_iff_forall_mem]
    intro c hc
    exact decide_eq_true (low c (Array.mem_toList_iff.mpr hc))
  · unfold Txt.isalpha
    rw [Bool.and_eq_true]
    refine ⟨decide_eq_true (by omega), ?_⟩
    rw [Array.all_eq_true_iff_forall_mem]
    intro c hc
    have hm := Array.mem_toList_iff.mpr hc
    have z := (chars ⟨c, low c hm⟩).1
    have r := h3 c hm
    simp only [decide_eq_true r.1, decide_eq_true r.2, Bool.and_true, Bool.and_eq_true] at z
    exact z.1
  · unfold Txt.islower
    rw [Bool.and_eq_true]
    constructor
    · rw [← Array.any_toList, List.any_eq_true]
      obtain ⟨c, hc⟩ : ∃ c, c ∈ x.cps.toList := by
        cases e : x.cps.toList with
        | nil =>
          rw [len, e] at h1
          exact absurd h1 (by decide)
        | cons c r => exact ⟨c, List.mem_cons_self⟩
      exact ⟨c, hc, (chars ⟨c, low c hc⟩).2 (h3 c hc).1 (h3 c hc).2⟩
    · rw [Bool.not_eq_true', Array.any_eq_false]
      intro i hi
      have hm : x.cps[i] ∈ x.cps.toList := Array.mem_toList_iff.mpr (Array.getElem_mem hi)
      have z := (chars ⟨x.cps[i], low _ hm⟩).1
      have r := h3 _ hm
      simp only [decide_eq_true r.1, decide_eq_true r.2, Bool.and_true, Bool.and_eq_true, Bool.not_eq_true'] at z
      rw [z.2]
      exact Bool.false_ne_true
/-! ### is_word -/
def spIsWord : Sp := fun vs H Q _ => ∃ x : Str, vs = [.str x] ∧ GoodWord x ∧ Q (.bl true) H
/-- the constants of the module -/
structure TxtP (K : PySem.W.Frag) (mg : Str → Option Value) (E1 E2 : Addr) : Prop where
  len : mg "len" = none
  long : ∃ t, mg "LONGEST_WORD" = some (.int 20 t)
  g1 : mg "ENGLISH_ONES" = some (.ref E1)
  g2 : mg "ENGLISH_TENS" = some (.ref E2)
  e1 : ∃ xs : List V, xs.length = 20 ∧ ∀ H, SqT K H E1 xs
  e2 : ∃ xs : List V, xs.length = 8 ∧ ∀ H, SqT K H E2 xs
section
variable {P : Program} {w : World} {K : PySem.W.Frag} {mg : Str → Option Value} {base : Heap} {E1 E2 : Addr}
theorem scIsWord : FnScope ["text"] ["text"] (defScope sIsWord) := ⟨rfl, rfl, rfl, by decide +kernel, rfl, by decide +kernel, by decide +kernel⟩
theorem ok_isWord {f : Addr} {fd : FuncData} (F : Fun K "is_word" "is_word" sIsWord f fd) (T : TxtP K mg E1 E2) : FnOk P w K mg base CX0 1 f fd ["text"] spIsWord := by
  refine F.ok scIsWord (fun vs H Q E h => ?_) (fun cdv A outer s H vs Q E hr h => ?_)
  · obtain ⟨x, rfl, _⟩ := h
    rfl
  · obtain ⟨x, rfl, g, k⟩ := h
    obtain ⟨tk, mL⟩ := T.long
    obtain ⟨t1, t2, t3⟩ := g.tests
    refine ⟨_, pss_one (ps_ret (pe_and (pe_cmpR op_le (pe_callB call_len_str (by rfl) T.len PySem.boot_len (pa_cons (pv 0) pa_nil)) (pe_glob (v := .int 20) rfl mL ⟨_, rfl⟩) (nomark _))
      (pe_and (pe_m0 PySem.F.slot_str_isascii PySem.F.type_str_isascii mt_isascii (pv 0))
      (pe_and (pe_m0 PySem.F.slot_str_isalpha PySem.F.type_str_isalpha mt_isalpha (pv 0))
      (pe_one (pe_m0 PySem.F.slot_str_islower PySem.F.type_str_islower mt_islower (pv 0))))))), ?_⟩
    have big : 20 ≤ sizeLine := by decide
    have l2 : x.length ≤ 20 := g.2.1
    refine ⟨_, rfl, x, rfl, by omega, _, _, rfl, rfl, _, rfl, ?_⟩
    rw [decide_eq_true (show ((x.length : Nat) : Int) ≤ 20 by omega)]
    refine iteT ⟨_, rfl, ⟨_, rfl⟩, x, rfl, rfl, trivial, _, rfl, ?_⟩
    rw [t1]
    refine iteT ⟨_, rfl, ⟨_, rfl⟩, x, rfl, rfl, trivial, _, rfl, ?_⟩
    rw [t2]
    refine iteT ⟨_, rfl, ⟨_, rfl⟩, x, rfl, rfl, trivial, ?_⟩
    rw [t3]
    exact k
/-! ### check_table of a valid table -/
def spCheck : Sp := fun vs H Q _ => ∃ (t o te sc : Addr) (ones tens : List Str) (hun : Str) (scales : List Str), vs = [.ref t] ∧ TabAt H t ones tens hun scales o te sc ∧ ones.length = 20 ∧ tens.length = 8 ∧ scales.length ≤ 900 ∧
  GoodRow (ones ++ (tens ++ hun :: scales)) ∧ ∀ H', Same H H' → Q .non H'
def seenK (ws : List Str) : List (Key × V) := ws.map fun x => (Sum.inr x, V.bl true)
theorem seen_no {ws : List Str} {x : Str} (h : ¬ x ∈ ws) : valV (seenK ws) (Sum.inr x : Key) = none := by
  unfold valV seenK
  rw [List.find?_eq_none.mpr]
  · rfl
  · intro p hp
    obtain ⟨y, hy, rfl⟩ := List.mem_map.mp hp
    simp only [decide_eq_true_eq]
    intro e
    exact h (Sum.inr.inj e ▸ hy)
theorem not_before {α : Type} {ws : List α} {i : Nat} {x : α} (nd : ws.Nodup) (h : ws[i]? = some x) : ¬ x ∈ ws.take i := by
  obtain ⟨hi, e⟩ := List.getElem?_eq_some_iff.mp h
  intro m
  have z := List.take_append_drop i ws
  rw [List.drop_eq_getElem_cons hi, e] at z
  rw [← z] at nd
  exact (List.nodup_append.mp nd).2.2 x m x List.mem_cons_self rfl
theorem scCheck : FnScope ["table", "ones", "tens", "hundred", "scales", "seen", "word"] ["table"] (defScope sCheck) := ⟨rfl, rfl, rfl, by decide +kernel, rfl, by decide +kernel, by decide +kernel⟩
theorem ok_check {f fW : Addr} {fd dW : FuncData} (F : Fun K "check_table" "check_table" sCheck f fd) (T : TxtP K mg E1 E2)
    (GW : FnOk P w K mg base CX0 1 fW dW ["text"] spIsWord) (gW : mg "is_word" = some (.ref fW)) (kW : PySem.W.keepIn K (.ref fW) = true) (bW : Binds K dW ["text"] []) : FnOk P w K mg base CX0 2 f fd ["table"] spCheck := by
  refine F.ok scCheck (fun vs H Q E h => ?_) (fun cdv A outer s H vs Q E hr h => ?_)
  · obtain ⟨t, o, te, sc, ones, tens, hun, scales, rfl, _⟩ := h
    rfl
  · obtain ⟨t, o, te, sc, ones, tens, hun, scales, rfl, TA, l1, l2, l3, good, k⟩ := h
    obtain ⟨xs1, xl1, q1⟩ := T.e1
    obtain ⟨xs2, xl2, q2⟩ := T.e2
    have hu := hu_of hr
    refine ⟨_, pss_cons (ps_asg (pv 0) (pg_tup (by rfl) (pgs_cons (pg_name (i := 1) scCheck.nd rfl (.inl rfl)) (pgs_cons (pg_name (i := 2) scCheck.nd rfl (.inl rfl)) (pgs_cons (pg_name (i := 3) scCheck.nd rfl (.inl rfl)) (pgs_cons (pg_name (i := 4) scCheck.nd rfl (.inl rfl)) pgs_nil))))))
      (pss_cons (ps_if (PW.pt (pw_or (pt_cmpR op_ne (pe_callB call_len_seq (by rfl) T.len PySem.boot_len (pa_cons (pv 1) pa_nil)) (pe_callB call_len_seq (by rfl) T.len PySem.boot_len (pa_cons (pe_glob (v := .ref E1) rfl T.g1 rfl) pa_nil)) (nomark _))
          (pw_or1 (pt_cmpR op_ne (pe_callB call_len_seq (by rfl) T.len PySem.boot_len (pa_cons (pv 2) pa_nil)) (pe_callB call_len_seq (by rfl) T.len PySem.boot_len (pa_cons (pe_glob (v := .ref E2) rfl T.g2 rfl) pa_nil)) (nomark _)))))
        pss_never pss_nil)
      (pss_cons (ps_set (i := 5) scCheck.nd rfl (.inl rfl) pe_dnewK)
      (pss_one (ps_for PassesOwn.never rfl (pi_list (pe_lst (StX.pa_star (pv 1) (StX.pa_star (pv 2) (pa_cons (pv 3) (StX.pa_star (pv 4) pa_nil)))))) (pg_name (i := 6) scCheck.nd rfl (.inl rfl))
        (pss_cons (ps_if (PW.pt (pw_or (pt_cmp (pc_din hu (pv 6) (pv 5))) (pw_or1 (pt_not (pt_val (pe_call GW hr (by rfl) gW kW bW .nil pass0 (pa_cons (pv 6) pa_nil))))))) pss_never pss_nil)
        (pss_one (ps_dput hu (pv 5) (pv 6) pe_bl rfl))))))), ?_⟩
    refine ⟨_, rfl, t, _, rfl, SqT.of TA.tup, rfl, _, _, rfl, _, _, rfl, _, _, rfl, _, _, rfl, rfl, ?_⟩
    refine ⟨_, rfl, o, _, rfl, .inl (SqL.of TA.lo), E1, xs1, rfl, .inr (q1 _), rfl, _, rfl, ?_⟩
    rw [List.length_map, l1, xl1]
    refine iteNS rfl ⟨_, rfl, te, _, rfl, .inl (SqL.of TA.lt), E2, xs2, rfl, .inr (q2 _), rfl, _, rfl, ?_⟩
    rw [List.length_map, l2, xl2]
    refine iteNS rfl ?_
    intro e ne
    obtain ⟨row, hrow⟩ : ∃ row, row = ones ++ (tens ++ hun :: scales) := ⟨_, rfl⟩
    have rl : row.length ≤ 1000 := by
      rw [hrow, List.length_append, List.length_append, List.length_cons]
      omega
    have s1 : Same H (upd H e (.dK [])) := fun b u z => by
      rw [upd_ne (ne_of_none z ne)]
      exact z
    have eqs : ones.map V.str ++ (tens.map V.str ++ V.str hun :: (scales.map V.str ++ [])) = row.map V.str := by
      rw [hrow, List.append_nil, List.map_append, List.map_append, List.map_cons]
    refine ⟨_, rfl, o, _, rfl, .inr (SqL.of (s1 _ _ TA.lo)), _, rfl, te, _, rfl, .inr (SqL.of (s1 _ _ TA.lt)), _, rfl, _, rfl, sc, _, rfl, .inr (SqL.of (s1 _ _ TA.ls)), ?_, fun L nL => ?_⟩
    · rw [eqs, List.length_map]
      exact Nat.le_of_lt (small1000 rl)
    have Le : L ≠ e := fun z => by
      rw [z, upd_same] at nL
      cases nL
    have nLH : H L = none := by
      rw [upd_ne Le] at nL
      exact nL
    refine ⟨L, rfl, ⟨_, SqL.of upd_same⟩, for_list (K := K) (a := L) (xs := row.map V.str) (fun i σ H2 => ∃ x : Option V, σ = [some (.ref t), some (.ref o), some (.ref te), some (.str hun), some (.ref sc), some (.ref e), x] ∧
      H2 L = some (.lst (row.map V.str)) ∧ H2 e = some (.dK (seenK (row.take i))) ∧ Same H H2) ?_ ?_ ?_ ?_⟩
    · refine ⟨none, rfl, ?_, by rw [upd_ne Le.symm, upd_same]; rfl, fun b u z => ?_⟩
      · rw [upd_same]
        exact congrArg (fun z => some (HO.lst z)) eqs
      · rw [upd_ne (ne_of_none z nLH)]
        exact s1 b u z
    · rintro i σ H2 _ ⟨x, rfl, hL, _⟩
      exact SqL.of hL
    · rintro i y σ H2 hi ⟨x, rfl, hL, he, s2⟩
      obtain ⟨z, hz, rfl⟩ : ∃ z, row[i]? = some z ∧ y = V.str z := by
        rw [List.getElem?_map] at hi
        cases q : row[i]? with
        | none =>
          rw [q] at hi
          cases hi
        | some z =>
          rw [q] at hi
          exact ⟨z, rfl, (Option.some.inj hi).symm⟩
      have hm := List.mem_of_getElem? hz
      have il := (List.getElem?_eq_some_iff.mp hz).1
      have no := seen_no (not_before (by rw [hrow]; exact good.nd) hz)
      have gz : GoodWord z := good.ok z (by rw [← hrow]; exact hm)
      have dg := DGet.k (k := (Sum.inr z : Key)) he
      rw [no] at dg
      refine ⟨_, rfl, _, rfl, e, none, rfl, dg, _, rfl, iteF ?_⟩
      refine ⟨_, rfl, z, rfl, gz, true, rfl, iteF ?_⟩
      have sl : (seenK (row.take i)).length < sizeLine := by
        refine small1000 ?_
        unfold seenK
        rw [List.length_map, List.length_take]
        omega
      refine ⟨_, rfl, _, rfl, e, _, rfl, DPut.k (k := (Sum.inr z : Key)) (v := .bl true) he sl, ?_⟩
      have neL : e ≠ L := Le.symm
      refine ⟨_, rfl, by rw [upd_ne Le]; exact hL, ?_, fun b u q => ?_⟩
      · rw [upd_same, putK_new _ no, List.take_add_one, hz]
        unfold seenK
        rw [List.map_append]
        rfl
      · rw [upd_ne (ne_of_none q ne)]
        exact s2 b u q
    · rintro σ H2 ⟨x, rfl, hL, he, s2⟩
      exact k H2 s2
/-! ### limit -/
def limitOf (scales : List Str) : Int := 1000 * 1000 ^ scales.length
theorem limit_small (n : Nat) (h : n ≤ 901) : (1000 * 1000 ^ n : Int).natAbs < 2 ^ 10000 := by
  have e : (1000 * 1000 ^ n : Int) = ((1000 * 1000 ^ n : Nat) : Int) := by
    rw [Int.natCast_mul, Int.natCast_pow]
    rfl
  rw [e]
  show 1000 * 1000 ^ n < 2 ^ 10000
  have a : (1000 : Nat) ^ n ≤ (2 ^ 10) ^ n := Nat.pow_le_pow_left (by decide) n
  rw [← Nat.pow_mul] at a
  have b : (2 : Nat) ^ (10 * n) ≤ 2 ^ 9010 := Nat.pow_le_pow_right (by decide) (by omega)
  have c : (1000 : Nat) * 2 ^ 9010 ≤ 2 ^ 10 * 2 ^ 9010 := Nat.mul_le_mul_right _ (by decide)
  rw [← Nat.pow_add] at c
  have d : (2 : Nat) ^ 9020 < 2 ^ 10000 := Nat.pow_lt_pow_right (by decide) (by decide)
  have f : 1000 * 1000 ^ n ≤ 1000 * 2 ^ 9010 := Nat.mul_le_mul_left _ (Nat.le_trans a b)
  exact Nat.lt_of_le_of_lt (Nat.le_trans f c) d
/-- top_of: the limit of a table, without a check -/
def spTopOf : Sp := fun vs H Q _ => ∃ (t o te sc : Addr) (ones tens : List Str) (hun : Str) (scales : List Str), vs = [.ref t] ∧ TabAt H t ones tens hun scales o te sc ∧ scales.length ≤ 900 ∧ Q (.int (limitOf scales)) H
theorem scTopOf : FnScope ["table", "top", "_"] ["table"] (defScope sTopOf) := ⟨rfl, rfl, rfl, by decide +kernel, rfl, by decide +kernel, by decide +kernel⟩
theorem ok_topOf {f : Addr} {fd : FuncData} (F : Fun K "top_of" "top_of" sTopOf f fd) : FnOk P w K mg base CX0 1 f fd ["table"] spTopOf := by
  refine F.ok scTopOf (fun vs H Q E h => ?_) (fun cdv A outer s H vs Q E hr h => ?_)
  · obtain ⟨t, o, te, sc, ones, tens, hun, scales, rfl, _⟩ := h
    rfl
  · obtain ⟨t, o, te, sc, ones, tens, hun, scales, rfl, TA, l3, k⟩ := h
    refine ⟨_, pss_cons (ps_set (i := 1) scTopOf.nd rfl (.inl rfl) pe_int)
      (pss_cons (ps_for PassesOwn.never rfl (pi_list (pe_ix ix_tup (pv 0) pe_int (fun _ _ => rfl))) (pg_name (i := 2) scTopOf.nd rfl (.inl rfl))
        (pss_one (ps_set (i := 1) scTopOf.nd rfl (.inl rfl) (pe_op op_mulW (pv 1) pe_int))))
      (pss_one (ps_ret (pv 1)))), ?_⟩
    refine ⟨_, rfl, t, _, _, _, rfl, rfl, SqT.of TA.tup, (rfl : atI [V.ref o, V.ref te, V.str hun, V.ref sc] 3 = some (.ref sc)), sc, rfl, ⟨_, SqL.of TA.ls⟩, ?_⟩
    refine for_list (K := K) (a := sc) (xs := scales.map V.str) (fun i σ H2 => H2 = H ∧ ∃ x : Option V, σ = [some (.ref t), some (.int (1000 * 1000 ^ i)), x]) ⟨rfl, none, rfl⟩ ?_ ?_ ?_
    · rintro i σ H2 _ ⟨rfl, _⟩
      exact SqL.of TA.ls
    · rintro i y σ H2 hi ⟨rfl, x, rfl⟩
      have il : i < scales.length := by
        have z := (List.getElem?_eq_some_iff.mp hi).1
        rw [List.length_map] at z
        exact z
      refine ⟨_, rfl, _, _, rfl, rfl, wide_mul (limit_small i (by omega)) (show (1000 : Int).natAbs < 2 ^ 10 by decide) (by decide) (by decide) (by decide), rfl, some y, ?_⟩
      rw [Int.pow_succ, ← Int.mul_assoc]
      rfl
    · rintro σ H2 ⟨rfl, x, rfl⟩
      rw [List.length_map]
      exact ⟨_, rfl, k⟩
end
end LB
set_option Elab.async false
set_option linter.all false
set_option maxRecDepth 100000
set_option maxHeartbeats 4000000
/-! The program's own: is_word, check_table for any table. -/
namespace LB
open PySem L2 Wk
theorem len_list (x : Str) : x.length = x.cps.toList.length := by
  show x.cps.size = _
  rw [Array.length_toList]
theorem goodB_iff {x : Str} : goodB x = true ↔ GoodWord x := by
  refine ⟨goodB_ok, fun g => ?_⟩
  unfold goodB
  simp only [Bool.and_eq_true, decide_eq_true_eq, List.all_eq_true]
  exact ⟨g.1, g.2.1, fun c hc => g.2.2 c hc⟩
/-- the program's four tests say the same -/
theorem tests_good {x : Str} (h1 : x.length ≤ 20) (h2 : Txt.isascii x = true) (h3 : Txt.isalpha x = true) (h4 : Txt.islower x = true) : GoodWord x := by
  unfold Txt.isascii at h2
  unfold Txt.isalpha at h3
  unfold Txt.islower at h4
  rw [Bool.and_eq_true] at h3 h4
  rw [Array.all_eq_true_iff_forall_mem] at h2
  have h32 := h3.2
  rw [Array.all_eq_true_iff_forall_mem] at h32
  have h42 := h4.2
  rw [Bool.not_eq_true', ← Array.any_toList, List.any_eq_false] at h42
  refine ⟨of_decide_eq_true h3.1, h1, fun c hc => ?_⟩
  have hm : c ∈ x.cps := Array.mem_toList_iff.mp hc
  have c1 : c < 128 := of_decide_eq_true (h2 c hm)
  have z := (chars ⟨c, c1⟩).1
  have a := h32 c hm
  have b := h42 c hc
  simp only [a, Bool.true_and] at z
  have b' : (Unicode.isUpper c || Unicode.isTitle c) = false := Bool.eq_false_iff.mpr b
  rw [b'] at z
  simp only [Bool.not_false] at z
  have z2 := z.symm
  rw [Bool.and_eq_true, decide_eq_true_eq, decide_eq_true_eq] at z2
  exact z2
def spIsWordB : Sp := fun vs H Q _ => ∃ x : Str, vs = [.str x] ∧ x.length ≤ 2000 ∧ Q (.bl (goodB x)) H
section
variable {P : Program} {w : World} {K : PySem.W.Frag} {mg : Str → Option Value} {base : Heap} {E1 E2 : Addr}
theorem ok_isWordB {f : Addr} {fd : FuncData} (F : Fun K "is_word" "is_word" sIsWord f fd) (T : TxtP K mg E1 E2) : FnOk P w K mg base CX0 1 f fd ["text"] spIsWordB := by
  refine F.ok scIsWord (fun vs H Q E h => ?_) (fun cdv A outer s H vs Q E hr h => ?_)
  · obtain ⟨x, rfl, _⟩ := h
    rfl
  · obtain ⟨x, rfl, xl, k⟩ := h
    obtain ⟨tk, mL⟩ := T.long
    refine ⟨_, pss_one (ps_ret (pe_and (pe_cmpR op_le (pe_callB call_len_str (by rfl) T.len PySem.boot_len (pa_cons (pv 0) pa_nil)) (pe_glob (v := .int 20) rfl mL ⟨_, rfl⟩) (nomark _))
      (pe_and (pe_m0 PySem.F.slot_str_isascii PySem.F.type_str_isascii mt_isascii (pv 0))
      (pe_and (pe_m0 PySem.F.slot_str_isalpha PySem.F.type_str_isalpha mt_isalpha (pv 0))
      (pe_one (pe_m0 PySem.F.slot_str_islower PySem.F.type_str_islower mt_islower (pv 0))))))), ?_⟩
    have big : 2000 ≤ sizeLine := by decide
    have no : ¬ GoodWord x → Q (.bl false) H := fun n => by
      have e : goodB x = false := Bool.eq_false_iff.mpr fun z => n (goodB_iff.mp z)
      rw [e] at k
      exact k
    refine ⟨_, rfl, x, rfl, by omega, _, _, rfl, rfl, _, rfl, ?_⟩
    refine ite2 (fun c1 => ?_) (fun c1 => no fun g => c1 (decide_eq_true (by have := g.2.1; omega)))
    have c1' : x.length ≤ 20 := by
      have z := of_decide_eq_true c1
      omega
    refine ⟨_, rfl, ⟨_, rfl⟩, x, rfl, rfl, trivial, _, rfl, ?_⟩
    refine ite2 (fun c2 => ?_) (fun c2 => no fun g => c2 g.tests.1)
    refine ⟨_, rfl, ⟨_, rfl⟩, x, rfl, rfl, trivial, _, rfl, ?_⟩
    refine ite2 (fun c3 => ?_) (fun c3 => no fun g => c3 g.tests.2.1)
    refine ⟨_, rfl, ⟨_, rfl⟩, x, rfl, rfl, trivial, ?_⟩
    cases c4 : Txt.islower x with
    | true =>
      rw [goodB_iff.mpr (tests_good c1' c2 c3 c4)] at k
      exact k
    | false => exact no fun g => by rw [g.tests.2.2] at c4; cases c4
/-! ### check_table -/
/-- the first word that is none, or that stood before -/
def firstBad : List Str → List Str → Option V
  | _, [] => none
  | seen, x :: r => if x ∈ seen ∨ goodB x = false then some (.str x) else firstBad (seen ++ [x]) r
def fault (ones tens : List Str) (hun : Str) (scales : List Str) : Option V :=
  if ones.length ≠ 20 ∨ tens.length ≠ 8 then some .non else firstBad [] (ones ++ (tens ++ hun :: scales))
def spCheckX (C : Addr) : Sp := fun vs H Q E => ∃ (t o te sc : Addr) (ones tens : List Str) (hun : Str) (scales : List Str), vs = [.ref t] ∧ TabAt H t ones tens hun scales o te sc ∧ ones.length ≤ 100 ∧ tens.length ≤ 100 ∧ scales.length ≤ 500 ∧
  (∀ x ∈ ones ++ (tens ++ hun :: scales), x.length ≤ 2000) ∧ (fault ones tens hun scales = none → ∀ H', Same H H' → Q .non H') ∧
  (∀ v, fault ones tens hun scales = some v → ∀ d H', H d = none → Same H H' → H' d = some (.xd [("value", v)]) → E (.ref C) (some d) H')
theorem seen_yes {ws : List Str} {x : Str} : (valV (seenK ws) (Sum.inr x : Key)).isSome = decide (x ∈ ws) := by
  by_cases h : x ∈ ws
  · rw [decide_eq_true h]
    unfold valV seenK
    rw [Option.isSome_map, List.find?_isSome]
    exact ⟨_, List.mem_map.mpr ⟨x, h, rfl⟩, decide_eq_true rfl⟩
  · rw [decide_eq_false h, seen_no h]
    rfl
theorem firstBad_cons (seen r : List Str) (x : Str) : firstBad seen (x :: r) = if x ∈ seen ∨ goodB x = false then some (.str x) else firstBad (seen ++ [x]) r := rfl
theorem firstBad_split : ∀ (a seen b : List Str), firstBad seen a = none → firstBad seen (a ++ b) = firstBad (seen ++ a) b
  | [], seen, b, _ => by rw [List.nil_append, List.append_nil]
  | x :: a, seen, b, h => by
    rw [List.cons_append, firstBad_cons]
    rw [firstBad_cons] at h
    by_cases c : x ∈ seen ∨ goodB x = false
    · rw [if_pos c] at h
      cases h
    · rw [if_neg c] at h ⊢
      rw [firstBad_split a (seen ++ [x]) b h, List.append_assoc]
      rfl
theorem ok_checkX {f fW C fI : Addr} {fd dW dI : FuncData} (F : Fun K "check_table" "check_table" sCheck f fd) (T : TxtP K mg E1 E2)
    (GW : FnOk P w K mg base CX0 1 fW dW ["text"] spIsWordB) (gW : mg "is_word" = some (.ref fW)) (kW : PySem.W.keepIn K (.ref fW) = true) (bW : Binds K dW ["text"] [])
    (FC : ClsF P w K mg base "InvalidTable" C fI dI) : FnOk P w K mg base (L2.CX P w) 3 f fd ["table"] (spCheckX C) := by
  refine F.okX scCheck (fun vs H Q E h => ?_) (fun cdv A outer s H vs Q E hr h => ?_)
  · obtain ⟨t, o, te, sc, ones, tens, hun, scales, rfl, _⟩ := h
    rfl
  · obtain ⟨t, o, te, sc, ones, tens, hun, scales, rfl, TA, l1, l2, l3, short, k, kE⟩ := h
    obtain ⟨xs1, xl1, q1⟩ := T.e1
    obtain ⟨xs2, xl2, q2⟩ := T.e2
    have hu := hu_of hr
    have hr1 : Room 1 _ := hr.mono (by decide)
    refine ⟨_, pss_cons (ps_asg (pv 0) (pg_tup (by rfl) (pgs_cons (pg_name (i := 1) scCheck.nd rfl (.inl rfl)) (pgs_cons (pg_name (i := 2) scCheck.nd rfl (.inl rfl)) (pgs_cons (pg_name (i := 3) scCheck.nd rfl (.inl rfl)) (pgs_cons (pg_name (i := 4) scCheck.nd rfl (.inl rfl)) pgs_nil))))))
      (pss_cons (ps_if (PW.pt (pw_or (pt_cmpR op_ne (pe_callB call_len_seq (by rfl) T.len PySem.boot_len (pa_cons (pv 1) pa_nil)) (pe_callB call_len_seq (by rfl) T.len PySem.boot_len (pa_cons (pe_glob (v := .ref E1) rfl T.g1 rfl) pa_nil)) (nomark _))
          (pw_or1 (pt_cmpR op_ne (pe_callB call_len_seq (by rfl) T.len PySem.boot_len (pa_cons (pv 2) pa_nil)) (pe_callB call_len_seq (by rfl) T.len PySem.boot_len (pa_cons (pe_glob (v := .ref E2) rfl T.g2 rfl) pa_nil)) (nomark _)))))
        (pss_one (ps_raiseV FC hr rfl (takes_of rfl rfl rfl rfl) rfl pe_non)) pss_nil)
      (pss_cons (ps_set (i := 5) scCheck.nd rfl (.inl rfl) pe_dnewK)
      (pss_one (ps_for (PassesOwn.leaving) rfl (pi_list (pe_lst (StX.pa_star (pv 1) (StX.pa_star (pv 2) (pa_cons (pv 3) (StX.pa_star (pv 4) pa_nil)))))) (pg_name (i := 6) scCheck.nd rfl (.inl rfl))
        (pss_cons (ps_if (PW.pt (pw_or (pt_cmp (pc_din hu (pv 6) (pv 5))) (pw_or1 (pt_not (pt_val (pe_call GW hr1 (by rfl) gW kW bW .nil pass0 (pa_cons (pv 6) pa_nil)))))))
          (pss_one (ps_raiseV FC hr rfl (takes_of rfl rfl rfl rfl) rfl (pv 6))) pss_nil)
        (pss_one (ps_dput hu (pv 5) (pv 6) pe_bl rfl))))))), ?_⟩
    have wrong : ¬ (ones.length = 20 ∧ tens.length = 8) → fault ones tens hun scales = some .non := fun n => by
      unfold fault
      rw [if_pos]
      by_cases c : ones.length = 20
      · exact .inr fun z => n ⟨c, z⟩
      · exact .inl c
    refine ⟨_, rfl, t, _, rfl, SqT.of TA.tup, rfl, _, _, rfl, _, _, rfl, _, _, rfl, _, _, rfl, rfl, ?_⟩
    refine ⟨_, rfl, o, _, rfl, .inl (SqL.of TA.lo), E1, xs1, rfl, .inr (q1 _), rfl, _, rfl, ?_⟩
    rw [List.length_map, xl1]
    refine ite2 (fun c1 => ?_) (fun c1 => ?_)
    · refine iteT (mk_read fun d H' n s e => kE _ (wrong ?_) d H' n s e)
      rintro ⟨z, _⟩
      rw [z] at c1
      exact absurd c1 (by decide)
    have o20 : ones.length = 20 := by
      have z : decide (V.int ((ones.length : Nat) : Int) = V.int ((20 : Nat) : Int)) = true := by
        cases q : decide (V.int ((ones.length : Nat) : Int) = V.int ((20 : Nat) : Int)) with
        | true => rfl
        | false =>
          rw [q] at c1
          exact absurd rfl c1
      have z2 := V.int.inj (of_decide_eq_true z)
      omega
    refine ⟨_, rfl, te, _, rfl, .inl (SqL.of TA.lt), E2, xs2, rfl, .inr (q2 _), rfl, _, rfl, ?_⟩
    rw [List.length_map, xl2]
    refine ite2 (fun c2 => ?_) (fun c2 => ?_)
    · refine mk_read fun d H' n s e => kE _ (wrong ?_) d H' n s e
      rintro ⟨_, z⟩
      rw [z] at c2
      exact absurd c2 (by decide)
    have t8 : tens.length = 8 := by
      have z : decide (V.int ((tens.length : Nat) : Int) = V.int ((8 : Nat) : Int)) = true := by
        cases q : decide (V.int ((tens.length : Nat) : Int) = V.int ((8 : Nat) : Int)) with
        | true => rfl
        | false =>
          rw [q] at c2
          exact absurd rfl c2
      have z2 := V.int.inj (of_decide_eq_true z)
      omega
    intro e ne
    obtain ⟨row, hrow⟩ : ∃ row, row = ones ++ (tens ++ hun :: scales) := ⟨_, rfl⟩
    have hf : fault ones tens hun scales = firstBad [] row := by
      unfold fault
      rw [if_neg (fun z => z.elim (fun z => z o20) (fun z => z t8)), hrow]
    have rl : row.length ≤ 1000 := by
      rw [hrow, List.length_append, List.length_append, List.length_cons]
      omega
    have s1 : Same H (upd H e (.dK [])) := fun b u z => by
      rw [upd_ne (ne_of_none z ne)]
      exact z
    have eqs : ones.map V.str ++ (tens.map V.str ++ V.str hun :: (scales.map V.str ++ [])) = row.map V.str := by
      rw [hrow, List.append_nil, List.map_append, List.map_append, List.map_cons]
    refine ⟨_, rfl, o, _, rfl, .inr (SqL.of (s1 _ _ TA.lo)), _, rfl, te, _, rfl, .inr (SqL.of (s1 _ _ TA.lt)), _, rfl, _, rfl, sc, _, rfl, .inr (SqL.of (s1 _ _ TA.ls)), ?_, fun L nL => ?_⟩
    · rw [eqs, List.length_map]
      exact Nat.le_of_lt (small1000 rl)
    have Le : L ≠ e := fun z => by
      rw [z, upd_same] at nL
      cases nL
    have nLH : H L = none := by
      rw [upd_ne Le] at nL
      exact nL
    refine ⟨L, rfl, ⟨_, SqL.of upd_same⟩, for_list (K := K) (a := L) (xs := row.map V.str) (fun i σ H2 => ∃ x : Option V, σ = [some (.ref t), some (.ref o), some (.ref te), some (.str hun), some (.ref sc), some (.ref e), x] ∧
      H2 L = some (.lst (row.map V.str)) ∧ H2 e = some (.dK (seenK (row.take i))) ∧ firstBad [] (row.take i) = none ∧ Same H H2) ?_ ?_ ?_ ?_⟩
    · refine ⟨none, rfl, ?_, by rw [upd_ne Le.symm, upd_same]; rfl, rfl, fun b u z => ?_⟩
      · rw [upd_same]
        exact congrArg (fun z => some (HO.lst z)) eqs
      · rw [upd_ne (ne_of_none z nLH)]
        exact s1 b u z
    · rintro i σ H2 _ ⟨x, rfl, hL, _⟩
      exact SqL.of hL
    · rintro i y σ H2 hi ⟨x, rfl, hL, he, fb, s2⟩
      obtain ⟨z, hz, rfl⟩ : ∃ z, row[i]? = some z ∧ y = V.str z := by
        rw [List.getElem?_map] at hi
        cases q : row[i]? with
        | none =>
          rw [q] at hi
          cases hi
        | some z =>
          rw [q] at hi
          exact ⟨z, rfl, (Option.some.inj hi).symm⟩
      have il := (List.getElem?_eq_some_iff.mp hz).1
      have next : row = row.take i ++ z :: row.drop (i + 1) := by
        obtain ⟨h1, h2⟩ := List.getElem?_eq_some_iff.mp hz
        have q := List.take_append_drop i row
        rw [List.drop_eq_getElem_cons h1, h2] at q
        exact q.symm
      have hfz : z ∈ row.take i ∨ goodB z = false → fault ones tens hun scales = some (.str z) := fun c => by
        rw [hf, next, firstBad_split _ _ _ fb, List.nil_append, firstBad_cons, if_pos c]
      have dg := DGet.k (k := (Sum.inr z : Key)) he
      refine ⟨_, rfl, _, rfl, e, _, rfl, dg, _, rfl, ?_⟩
      rw [seen_yes]
      refine ite2 (fun c3 => ?_) (fun c3 => ?_)
      · refine iteT ⟨_, rfl, ?_⟩
        exact mk_read fun d H' n s q => kE _ (hfz (.inl (of_decide_eq_true c3))) d H' (s2.free n) (s2.trans s) q
      have c3' : ¬ z ∈ row.take i := fun m => c3 (decide_eq_true m)
      refine ⟨_, rfl, z, rfl, short z (by rw [← hrow]; exact List.mem_of_getElem? hz), _, rfl, ?_⟩
      cases gz : goodB z with
      | false =>
        refine iteT ⟨_, rfl, ?_⟩
        exact mk_read fun d H' n s q => kE _ (hfz (.inr gz)) d H' (s2.free n) (s2.trans s) q
      | true =>
        refine iteF ?_
        have sl : (seenK (row.take i)).length < sizeLine := by
          refine small1000 ?_
          unfold seenK
          rw [List.length_map, List.length_take]
          omega
        refine ⟨_, rfl, _, rfl, e, _, rfl, DPut.k (k := (Sum.inr z : Key)) (v := .bl true) he sl, ?_⟩
        refine ⟨_, rfl, by rw [upd_ne Le]; exact hL, ?_, ?_, fun b u q => ?_⟩
        · rw [upd_same, putK_new _ (seen_no c3'), List.take_add_one, hz]
          unfold seenK
          rw [List.map_append]
          rfl
        · rw [List.take_add_one, hz]
          show firstBad [] (row.take i ++ [z]) = none
          rw [firstBad_split _ _ _ fb, List.nil_append, firstBad_cons, if_neg]
          · rfl
          · rintro (m | m)
            · exact c3' m
            · rw [gz] at m
              cases m
        · rw [upd_ne (ne_of_none q ne)]
          exact s2 b u q
    · rintro σ H2 ⟨x, rfl, hL, he, fb, s2⟩
      rw [List.length_map, List.take_length] at fb
      exact k (hf.trans fb) H2 s2
end
end LB
set_option Elab.async false
set_option linter.all false
set_option maxRecDepth 100000
set_option maxHeartbeats 4000000
/-! Family B: the kind of a caught error. -/
namespace LB
open PySem L2 Wk
/-! ### list.count of truth values -/
def isB (k : Bool) (v : Value) : Bool := match v with
  | .bool b => b == k
  | _ => false
def rCntB (K : PySem.W.Frag) : V → List V → Hp → VK → Prop := fun x xs H Q => ∃ (p : Addr) (bs : List Bool) (k : Bool), x = .ref p ∧ xs = [.bl k] ∧ SqL K H p (bs.map V.bl) ∧ Q (.int (bs.count k : Nat)) H
theorem bools_are : ∀ {bs : List Bool} {us : List Value}, Vals (bs.map V.bl) us → us = bs.map Value.bool
  | [], _, r => by cases r; rfl
  | b :: bs, _, r => by
    cases r with
    | cons r1 r2 =>
      cases (show _ = Value.bool b from r1)
      rw [bools_are r2]
      rfl
theorem mt_countB {X : Cx} : MtR X "list.count" (rCntB X.K) := by
  intro pins s σ H x xs v us Q I rx rxs h
  obtain ⟨p, bs, k, rfl, rfl, hs, q⟩ := h
  cases rx
  obtain ⟨u, rfl, ru⟩ := rxs.one
  cases (show u = Value.bool k from ru)
  obtain ⟨its, rv, ⟨⟨cls, dd, data, sl⟩, n, ho, hc, hdn, hd⟩, hlen⟩ := I.list hs
  simp only at hc hd
  subst hc hd
  cases bools_are rv
  refine call_meets PySem.F.slot_list_count ⟨_, ho, rfl⟩ PySem.F.entry_list_count (PySem.F.args_list_count_2 _ _)
    (SeqAt.list_countAt p (bs.map Value.bool).toArray n dd sl (.bool k) (isB k)) ⟨ho, fun y hy => ?_, ?_⟩
  · obtain ⟨b, _, rfl⟩ := List.mem_map.mp (List.mem_toArray.mp hy)
    exact SeqAt.EqAt.bool_bool b k
  · have e : (bs.map Value.bool).toArray.toList.countP (isB k) = bs.count k := by
      show (bs.map Value.bool).countP (isB k) = bs.count k
      rw [List.countP_map]
      rfl
    refine ⟨.int (bs.count k : Nat), H, I.tok _, ⟨s.toks, ?_⟩, q⟩
    show Value.int (((bs.map Value.bool).toArray.toList.countP (isB k) : Nat) : Int) s.toks = Value.int ((bs.count k : Nat) : Int) s.toks
    rw [e]
/-! ### _law_kind -/
def kindName : Nat → Str
  | 0 => "table"
  | 1 => "number"
  | 2 => "words"
  | 3 => "range"
  | 4 => "undo"
  | _ => "text"
def flagB (i : Nat) : List Bool := [decide (i = 0), decide (i = 1), decide (i = 2), decide (i = 3), decide (i = 4), decide (i = 5)]
/-- an error of the class at C with the value v has been caught, at a -/
def Caught (H : Hp) (C a : Addr) (v : V) : Prop := ∃ d, H a = some (ExH (.ref C) (some d) a) ∧ H d = some (.xd [("value", v)])
def Apart (K : PySem.W.Frag) (cs : List Addr) : Prop := ∀ (i j : Nat) (C D : Addr), cs[i]? = some C → cs[j]? = some D → PySem.W.kitOne K (.ref C) (.ref D) = some (decide (i = j))
def spKind (cs : List Addr) : Sp := fun vs H Q _ => ∃ (a : Addr) (i : Nat) (C : Addr) (v : V), vs = [.ref a] ∧ cs[i]? = some C ∧ i < 6 ∧ Caught H C a v ∧
  ∀ (L : Addr) (H' : Hp), H L = none → H' L = some (.lst [.str (kindName i), v]) → Same H H' → Q (.ref L) H'
section
variable {P : Program} {w : World} {K : PySem.W.Frag} {mg : Str → Option Value} {base : Heap}
end
end LB
set_option Elab.async false
set_option linter.all false
set_option maxRecDepth 100000
set_option maxHeartbeats 4000000
/-! The program's own: limit for any table. -/
namespace LB
open PySem L2 Wk
def spLimitX (C : Addr) : Sp := fun vs H Q E => ∃ (t o te sc : Addr) (ones tens : List Str) (hun : Str) (scales : List Str), vs = [.ref t] ∧ TabAt H t ones tens hun scales o te sc ∧ ones.length ≤ 100 ∧ tens.length ≤ 100 ∧ scales.length ≤ 500 ∧
  (∀ x ∈ ones ++ (tens ++ hun :: scales), x.length ≤ 2000) ∧ (fault ones tens hun scales = none → ∀ H', Same H H' → Q (.int (limitOf scales)) H') ∧
  (∀ v, fault ones tens hun scales = some v → ∀ d H', H d = none → Same H H' → H' d = some (.xd [("value", v)]) → E (.ref C) (some d) H')
section
variable {P : Program} {w : World} {K : PySem.W.Frag} {mg : Str → Option Value} {base : Heap}
theorem scLimit : FnScope ["table"] ["table"] (defScope sLimit) := ⟨rfl, rfl, rfl, by decide +kernel, rfl, by decide +kernel, by decide +kernel⟩
theorem ok_limitX {f fC C fT : Addr} {fd dC dT : FuncData} (F : Fun K "limit" "limit" sLimit f fd)
    (GC : FnOk P w K mg base (L2.CX P w) 3 fC dC ["table"] (spCheckX C)) (gC : mg "check_table" = some (.ref fC)) (kC : PySem.W.keepIn K (.ref fC) = true) (bC : Binds K dC ["table"] [])
    (T : Def1 P w K mg base "top_of" 1 fT dT ["table"] spTopOf) : FnOk P w K mg base (L2.CX P w) 4 f fd ["table"] (spLimitX C) := by
  refine F.okX scLimit (fun vs H Q E h => ?_) (fun cdv A outer s H vs Q E hr h => ?_)
  · obtain ⟨t, o, te, sc, ones, tens, hun, scales, rfl, _⟩ := h
    rfl
  · obtain ⟨t, o, te, sc, ones, tens, hun, scales, rfl, TA, l1, l2, l3, short, k, kE⟩ := h
    refine ⟨_, pss_cons (ps_expr (pe_call GC hr (by rfl) gC kC bC .nil (passes_call (takes_of rfl rfl rfl rfl) (fun _ _ _ _ h => h)) (pa_cons (pv 0) pa_nil)))
      (pss_one (ps_ret (pe_call T.ok (hr.mono (by decide)) (by rfl) T.g T.k T.b .nil pass0 (pa_cons (pv 0) pa_nil)))), ?_⟩
    refine ⟨_, rfl, t, o, te, sc, ones, tens, hun, scales, rfl, TA, l1, l2, l3, short, fun hf H1 s1 => ?_, fun v hv d H' n s m => kE v hv d H' n s m⟩
    exact ⟨_, rfl, t, o, te, sc, ones, tens, hun, scales, rfl, ⟨s1 _ _ TA.tup, s1 _ _ TA.lo, s1 _ _ TA.lt, s1 _ _ TA.ls⟩, by omega, k hf _ s1⟩
/-- no fault: a table with its 29 or more words -/
theorem firstBad_none : ∀ {l seen : List Str}, firstBad seen l = none → (∀ x ∈ l, GoodWord x) ∧ (seen.Nodup → (seen ++ l).Nodup)
  | [], seen, _ => ⟨(fun x hx => nomatch hx), fun h => by rw [List.append_nil]; exact h⟩
  | x :: l, seen, h => by
    rw [firstBad_cons] at h
    by_cases c : x ∈ seen ∨ goodB x = false
    · rw [if_pos c] at h
      cases h
    · rw [if_neg c] at h
      obtain ⟨h1, h2⟩ := firstBad_none h
      have gx : GoodWord x := goodB_ok (by cases e : goodB x with
        | true => rfl
        | false => exact absurd (.inr e) c)
      refine ⟨fun y hy => ?_, fun hn => ?_⟩
      · rcases List.mem_cons.mp hy with rfl | hy
        · exact gx
        · exact h1 y hy
      · have e : seen ++ x :: l = seen ++ [x] ++ l := by rw [List.append_assoc]; rfl
        rw [e]
        refine h2 (List.nodup_append.mpr ⟨hn, List.pairwise_singleton _ _, fun a ha b hb => ?_⟩)
        rw [List.mem_singleton.mp hb]
        intro z
        exact c (.inl (z ▸ ha))
theorem fault_none {ones tens : List Str} {hun : Str} {scales : List Str} (h : fault ones tens hun scales = none) : ones.length = 20 ∧ tens.length = 8 ∧ GoodRow (ones ++ (tens ++ hun :: scales)) := by
  unfold fault at h
  split at h
  · cases h
  · rename_i c
    obtain ⟨h1, h2⟩ := firstBad_none h
    refine ⟨?_, ?_, ⟨by simpa using h2 List.nodup_nil, h1⟩⟩ <;> omega
end
end LB
set_option Elab.async false
set_option linter.all false
set_option maxRecDepth 100000
set_option maxHeartbeats 4000000
/-! Family B: tables that may be wrong. -/
namespace LB
open PySem L2 Wk
/-! ### a text times a number -/
def rMulS : R2 := fun x y H Q => ∃ (z : Str) (k : Int), x = .str z ∧ y = .int k ∧ 2 ≤ k ∧ k ≤ 1000 ∧ z.length ≤ 1000 ∧ 1 ≤ z.length ∧ Q (.str ⟨(List.replicate k.toNat z.cps).foldl (· ++ ·) #[]⟩) H
theorem size_fold (a : Array Nat) : ∀ (n : Nat) (acc : Array Nat), (List.foldl (fun x1 x2 => x1 ++ x2) acc (List.replicate n a)).size = acc.size + n * a.size
  | 0, acc => by
    rw [List.replicate_zero, List.foldl_nil, Nat.zero_mul, Nat.add_zero]
  | n + 1, acc => by
    rw [List.replicate_succ, List.foldl_cons, size_fold a n, Array.size_append, Nat.succ_mul]
    omega
theorem op_mulS {X : Cx} : OpR X (binaryOp .Mult) rMulS := by
  intro pins s σ H x y v u Q I rx ry h
  obtain ⟨z, k, rfl, rfl, k2, k3, z1, z0, q⟩ := h
  obtain ⟨t, rfl⟩ := rx
  obtain ⟨t2, rfl⟩ := ry
  have hb : (k == 1 || z.length == 0) = false := by
    rw [Bool.or_eq_false_iff]
    exact ⟨beq_eq_false_iff_ne.mpr (by omega), beq_eq_false_iff_ne.mpr (by omega)⟩
  refine PySem.P.mul_str ?_ (fun _ _ => ?_) (fun _ _ => ?_) ?_
  · rw [decide_eq_false (by omega), decide_eq_false (by omega)]
    rfl
  · rw [show (2 ^ 63 - 1 : Int) = 9223372036854775807 by decide]
    have z : (1000 : Int) ≤ 9223372036854775807 / k := Int.le_ediv_of_mul_le (by omega) (by omega)
    omega
  · refine decide_eq_false ?_
    have z : z.length * k.toNat ≤ 1000 * 1000 := Nat.mul_le_mul z1 (by omega)
    have b : 1000 * 1000 ≤ sizeLine := by decide
    omega
  · rw [if_neg (by omega), hb]
    refine ⟨?_, ?_⟩
    · show (List.foldl (fun x1 x2 => x1 ++ x2) #[] (List.replicate k.toNat z.cps)).size ≤ sizeLine
      rw [size_fold]
      show 0 + k.toNat * z.length ≤ sizeLine
      have z : k.toNat * z.length ≤ 1000 * 1000 := Nat.mul_le_mul (by omega) z1
      have b : 1000 * 1000 ≤ sizeLine := by decide
      omega
    · exact ⟨.str _, H, I.tok _, ⟨_, rfl⟩, q⟩
theorem RngAt.strs {H : Hp} {p a : Addr} {d s c : Int} {xs : List Str} (B : RngAt H p d s c) (h : H a = some (.lst (xs.map V.str))) : a ≠ p := by
  rintro rfl
  rw [B.at_] at h
  have e := HO.lst.inj (Option.some.inj h)
  cases xs with
  | nil => cases e
  | cons x r => exact absurd (List.cons.inj e).1 (by simp)
/-- a word as it may come here: short, of common signs -/
def tame (x : Str) : Bool := decide (x.length ≤ 21) && x.cps.toList.all fun c => decide (c < 128)
theorem tame_ok {x : Str} (h : tame x = true) : x.length ≤ 21 ∧ ∀ c ∈ x.cps.toList, c < 128 := by
  unfold tame at h
  simp only [Bool.and_eq_true, decide_eq_true_eq, List.all_eq_true] at h
  exact ⟨h.1, fun c hc => h.2 c hc⟩
theorem GoodWord.tame {x : Str} (g : GoodWord x) : tame x = true := by
  unfold LB.tame
  simp only [Bool.and_eq_true, decide_eq_true_eq, List.all_eq_true]
  exact ⟨Nat.le_trans g.2.1 (by decide), fun c hc => by have := g.2.2 c hc; omega⟩
def Keep (H G : Hp) (p : Addr) : Prop := ∀ q o, H q = some o → q ≠ p → G q = some o
theorem Keep.upd {H G : Hp} {p a : Addr} {x : HO} (k : Keep H G p) (n : G a = none) : Keep H (upd G a x) p := fun q o e m => by
  have z := k q o e m
  rw [upd_ne (ne_of_none z n)]
  exact z
theorem Keep.free {H G : Hp} {p a : Addr} {d s c d' s' c' : Int} (k : Keep H G p) (B : RngAt H p d s c) (B2 : RngAt G p d' s' c') (n : G a = none) : H a = none := by
  cases e : H a with
  | none => rfl
  | some o =>
    have ap : a ≠ p := fun z => by
      rw [z, B2.at_] at n
      cases n
    rw [k a o e ap] at n
    cases n
theorem RngAt.upd {G : Hp} {p a : Addr} {d s c : Int} {x : HO} (B : RngAt G p d s c) (n : G a = none) : RngAt (upd G a x) p d s c := ⟨by
  rw [upd_ne (ne_of_none B.at_ n)]
  exact B.at_, B.d0, B.s0, B.s1, B.c0⟩
theorem upd_keep {G : Hp} {q a : Addr} {o x : HO} (e : G q = some o) (n : G a = none) : upd G a x q = some o := by
  rw [upd_ne (ne_of_none e n)]
  exact e
theorem firstBad_some : ∀ {a seen : List Str} {v : V} (b : List Str), firstBad seen a = some v → firstBad seen (a ++ b) = some v
  | [], _, _, _, h => by cases h
  | x :: a, seen, v, b, h => by
    rw [List.cons_append, firstBad_cons]
    rw [firstBad_cons] at h
    by_cases c : x ∈ seen ∨ goodB x = false
    · rw [if_pos c] at h ⊢
      exact h
    · rw [if_neg c] at h ⊢
      exact firstBad_some b h
theorem firstBad_good : ∀ {a seen : List Str}, (seen ++ a).Nodup → (∀ x ∈ a, GoodWord x) → firstBad seen a = none
  | [], _, _, _ => rfl
  | x :: a, seen, nd, h => by
    rw [firstBad_cons, if_neg]
    · refine firstBad_good ?_ fun y hy => h y (List.mem_cons_of_mem _ hy)
      rw [List.append_assoc]
      exact nd
    · rintro (m | m)
      · exact (List.nodup_append.mp nd).2.2 x m x List.mem_cons_self rfl
      · rw [goodB_iff.mpr (h x List.mem_cons_self)] at m
        cases m
/-! ### the signs of a word that are none -/
def signV (c : Nat) : V := .str ⟨#[c]⟩
def odd (l : List Nat) : List Nat := l.filter fun c => !(decide (97 ≤ c) && decide (c ≤ 122))
theorem odd_snoc (l : List Nat) (c : Nat) : odd (l ++ [c]) = odd l ++ (if (decide (97 ≤ c) && decide (c ≤ 122)) = true then [] else [c]) := by
  unfold odd
  rw [List.filter_append]
  congr 1
  cases h : (decide (97 ≤ c) && decide (c ≤ 122)) with
  | true => rw [List.filter_cons_of_neg (by rw [h]; decide), if_pos rfl]; rfl
  | false => rw [List.filter_cons_of_pos (by rw [h]; decide), if_neg Bool.false_ne_true]; rfl
theorem alpha_mem (c : Nat) : decide (c ∈ ("abcdefghijklmnopqrstuvwxyz" : Str).cps.toList) = (decide (97 ≤ c) && decide (c ≤ 122)) := by
  have e : ("abcdefghijklmnopqrstuvwxyz" : Str).cps.toList = List.range' 97 26 := by decide +kernel
  rw [e, ← Bool.decide_and]
  exact decide_eq_decide.mpr (by rw [List.mem_range'_1]; omega)
theorem odd_good {x : Str} (h1 : 1 ≤ x.length) (h2 : x.length ≤ 20) : goodB x = (odd x.cps.toList).isEmpty := by
  unfold goodB odd
  rw [decide_eq_true h1, decide_eq_true h2, Bool.true_and, Bool.true_and, Bool.eq_iff_iff, List.all_eq_true, List.isEmpty_iff, List.filter_eq_nil_iff]
  simp
theorem signs_dp {K : PySem.W.Frag} {H : Hp} : ∀ l : List Nat, DpAll K H (l.map signV) (l.map fun c => PyData.str ⟨#[c]⟩)
  | [] => .nil
  | c :: l => .cons (.str _) (signs_dp l)
theorem signs_lay : ∀ l : List Nat, (∀ c ∈ l, c < 128) → PyData.canLayAll0 (l.map fun c => PyData.str ⟨#[c]⟩) = true ∧ PyData.depthAll (l.map fun c => PyData.str ⟨#[c]⟩) ≤ 1
  | [], _ => ⟨rfl, by decide⟩
  | c :: l, h => by
    obtain ⟨a, b⟩ := signs_lay l fun x hx => h x (List.mem_cons_of_mem _ hx)
    have hc := h c List.mem_cons_self
    refine ⟨?_, ?_⟩
    · rw [List.map_cons, PyData.canLayAll0, a, Bool.and_true, PyData.canLay0]
      unfold PyData.strOk
      simp
      omega
    · rw [List.map_cons, PyData.depthAll, PyData.depth]
      omega
theorem signs_shaped {l : List Nat} (h : ∀ c ∈ l, c < 128) : SeqAt.shaped (.list (l.map fun c => PyData.str ⟨#[c]⟩)) = true := by
  obtain ⟨a, b⟩ := signs_lay l h
  unfold SeqAt.shaped
  rw [PyData.canLay0, a, PyData.depth]
  simp
  omega
theorem signs_eqv (l : List Nat) : PyData.eqv (.list (l.map fun c => PyData.str ⟨#[c]⟩)) (.list []) = l.isEmpty := by
  cases l with
  | nil => rfl
  | cons c l => rfl
theorem inV_strs (x : Str) : ∀ l : List Str, inV (.str x) (l.map V.str) = decide (x ∈ l)
  | [] => by
    rw [decide_eq_false List.not_mem_nil]
    rfl
  | y :: l => by
    have z := inV_strs x l
    unfold inV at z ⊢
    rw [List.map_cons, List.any_cons, z]
    show (y == x || decide (x ∈ l)) = decide (x ∈ y :: l)
    rw [Bool.eq_iff_iff]
    simp only [Bool.or_eq_true, beq_iff_eq, decide_eq_true_eq, List.mem_cons]
    exact or_congr_left eq_comm
theorem flat_strs (l : List Str) : (l.map V.str).all flatV = true := by
  rw [List.all_map]
  exact List.all_eq_true.mpr fun _ _ => rfl
/-- what the table's error is to be -/
def BadAt (H : Hp) : Option V → V → Prop
  | none, v => v = .non
  | some x, v => ∃ a, v = .ref a ∧ H a = some (.lst [.str "table", x])
theorem BadAt.up {H G : Hp} {b : Option V} {v : V} (h : BadAt H b v) (u : ∀ q o, H q = some o → G q = some o) : BadAt G b v := by
  cases b with
  | none => exact h
  | some x =>
    obtain ⟨a, e, m⟩ := h
    exact ⟨a, e, u _ _ m⟩
theorem firstBad_snoc (l : List Str) (x : Str) : firstBad [] (l ++ [x]) = (match firstBad [] l with | some v => some v | none => if x ∈ l ∨ goodB x = false then some (.str x) else none) := by
  cases e : firstBad [] l with
  | some v => exact firstBad_some _ e
  | none =>
    rw [firstBad_split _ _ _ e, List.nil_append, firstBad_cons]
    rfl
/-- one place is taken by a wrong word, or by a word of the row: what has no fault in the end is what was there -/
def Fix (l0 row : List Str) : Prop := row.Nodup → (∀ x ∈ row, goodB x = true) → row = l0
theorem Fix.put {l0 row : List Str} (h : Fix l0 row) {i : Nat} {x : Str} (hi : i < row.length) (hx : goodB x = false ∨ ∃ j : Nat, row[j]? = some x) : Fix l0 (row.set i x) := by
  intro nd good
  have xm : (row.set i x)[i]? = some x := List.getElem?_set_self hi
  rcases hx with b | ⟨j, hj⟩
  · have z := good x (List.mem_of_getElem? xm)
    rw [b] at z
    cases z
  · by_cases ij : i = j
    · subst ij
      have e : row.set i x = row := by
        apply List.ext_getElem?
        intro k
        by_cases ik : i = k
        · subst ik
          rw [xm, hj]
        · exact List.getElem?_set_ne ik
      rw [e] at nd good ⊢
      exact h nd good
    · exfalso
      have xj : (row.set i x)[j]? = some x := (List.getElem?_set_ne ij).trans hj
      exact ij ((List.getElem?_inj (by rw [List.length_set]; exact hi) nd).mp (xm.trans xj.symm))
def spBadSheet : Sp := fun vs H Q _ => ∃ (p t : Addr) (d s c : Int) (o te sc : Addr) (ones tens : List Str) (hun : Str) (scales : List Str), vs = [.ref p, .ref t] ∧ RngAt H p d s c ∧ c < 2 ^ 29 ∧ TabAt H t ones tens hun scales o te sc ∧
  ones.length = 20 ∧ tens.length = 8 ∧ scales.length ≤ 20 ∧ GoodRow (ones ++ (tens ++ hun :: scales)) ∧
  ∀ (L t2 o2 te2 sc2 : Addr) (ones2 tens2 : List Str) (hun2 : Str) (scales2 : List Str) (bad : V) (d' c' : Int) (H' : Hp), H L = none → H' L = some (.lst [.ref t2, bad]) → TabAt H' t2 ones2 tens2 hun2 scales2 o2 te2 sc2 →
    ones2.length ≤ 21 → tens2.length ≤ 8 → scales2.length = scales.length → (∀ x ∈ ones2 ++ (tens2 ++ hun2 :: scales2), tame x = true) → BadAt H' (fault ones2 tens2 hun2 scales2) bad → (fault ones2 tens2 hun2 scales2 = none → ones2 = ones ∧ tens2 = tens ∧ hun2 = hun ∧ scales2 = scales) → RngAt H' p d' s c' → c' ≤ c + 10 →
    (∀ q o, H q = some o → q ≠ p → H' q = some o) → Q (.ref L) H'
section
variable {P : Program} {w : World} {K : PySem.W.Frag} {mg : Str → Option Value} {base : Heap}
end
end LB
set_option Elab.async false
set_option linter.all false
set_option maxRecDepth 100000
set_option maxHeartbeats 4000000
/-! The mathematics of beginnings: how many numbers of a range have names that begin so. -/
namespace Bg
/-- the numbers from a to e - 1 that lie from lo to hi, as the program counts them -/
def mx (n m : Int) : Int := if m > n then m else n
def mn (n m : Int) : Int := if m < n then m else n
def ov (lo hi a e : Int) : Int := mx 0 (mn (e - 1) hi - mx a lo + 1)
/-- how many of lo .. hi are below x -/
def fb (lo hi x : Int) : Int := mx 0 (mn x (hi + 1) - lo)
theorem ov_fb {lo hi a e : Int} (h : a ≤ e) : ov lo hi a e = fb lo hi e - fb lo hi a := by
  unfold ov fb mx mn
  repeat' split
  all_goals omega
theorem fb_mono {lo hi a e : Int} (h : a ≤ e) : fb lo hi a ≤ fb lo hi e := by
  unfold fb mx mn
  repeat' split
  all_goals omega
theorem fb_one {lo hi x : Int} (h : lo ≤ hi) : fb lo hi (x + 1) - fb lo hi x = if lo ≤ x ∧ x ≤ hi then 1 else 0 := by
  unfold fb mx mn
  repeat' split
  all_goals omega
theorem fb_low {lo hi x : Int} (h : x ≤ lo) : fb lo hi x = 0 := by
  unfold fb mx mn
  repeat' split
  all_goals omega
theorem fb_high {lo hi x : Int} (h : hi < x) (l : lo ≤ hi) : fb lo hi x = hi - lo + 1 := by
  unfold fb mx mn
  repeat' split
  all_goals omega
theorem fb_same {lo hi a e : Int} (h : a ≤ e) (c : hi < a ∨ e ≤ lo) : fb lo hi e - fb lo hi a = 0 := by
  unfold fb mx mn
  repeat' split
  all_goals omega
/-! ### sums -/
def sumR (f : Nat → Int) : Nat → Int
  | 0 => 0
  | n + 1 => sumR f n + f n
def sumL {α : Type} (f : α → Int) : List α → Int
  | [] => 0
  | x :: l => f x + sumL f l
theorem sumR_add (f g : Nat → Int) : ∀ n, sumR (fun j => f j + g j) n = sumR f n + sumR g n
  | 0 => rfl
  | n + 1 => by
    show sumR (fun j => f j + g j) n + (f n + g n) = (sumR f n + f n) + (sumR g n + g n)
    rw [sumR_add f g n]
    omega
theorem sumR_zero : ∀ n, sumR (fun _ => 0) n = 0
  | 0 => rfl
  | n + 1 => by
    show sumR (fun _ => 0) n + 0 = 0
    rw [sumR_zero n]
    rfl
theorem sumR_congr {f g : Nat → Int} : ∀ n, (∀ j, j < n → f j = g j) → sumR f n = sumR g n
  | 0, _ => rfl
  | n + 1, h => by
    show sumR f n + f n = sumR g n + g n
    rw [sumR_congr n fun j hj => h j (Nat.lt_succ_of_lt hj), h n (Nat.lt_succ_self n)]
theorem sumR_nonneg {f : Nat → Int} : ∀ n, (∀ j, j < n → 0 ≤ f j) → 0 ≤ sumR f n
  | 0, _ => Int.le_refl 0
  | n + 1, h => by
    have a := sumR_nonneg n fun j hj => h j (Nat.lt_succ_of_lt hj)
    have b := h n (Nat.lt_succ_self n)
    show 0 ≤ sumR f n + f n
    omega
theorem sumR_tel (f : Nat → Int) : ∀ n, sumR (fun j => f (j + 1) - f j) n = f n - f 0
  | 0 => by
    show (0 : Int) = f 0 - f 0
    omega
  | n + 1 => by
    show sumR (fun j => f (j + 1) - f j) n + (f (n + 1) - f n) = f (n + 1) - f 0
    rw [sumR_tel f n]
    omega
theorem sumL_append {α : Type} (f : α → Int) : ∀ a b : List α, sumL f (a ++ b) = sumL f a + sumL f b
  | [], b => by
    show sumL f b = 0 + sumL f b
    omega
  | x :: a, b => by
    show f x + sumL f (a ++ b) = f x + sumL f a + sumL f b
    rw [sumL_append f a b]
    omega
theorem sumL_perm {α : Type} (f : α → Int) {a b : List α} (h : a.Perm b) : sumL f a = sumL f b := by
  induction h with
  | nil => rfl
  | cons x _ ih => exact congrArg (f x + ·) ih
  | swap x y l =>
    show f y + (f x + sumL f l) = f x + (f y + sumL f l)
    omega
  | trans _ _ h1 h2 => exact h1.trans h2
theorem sumL_map {α β : Type} (g : α → β) (f : β → Int) : ∀ l : List α, sumL f (l.map g) = sumL (fun x => f (g x)) l
  | [] => rfl
  | x :: l => congrArg (f (g x) + ·) (sumL_map g f l)
theorem sumL_congr {α : Type} {f g : α → Int} : ∀ l : List α, (∀ x ∈ l, f x = g x) → sumL f l = sumL g l
  | [], _ => rfl
  | x :: l, h => by
    show f x + sumL f l = g x + sumL g l
    rw [h x List.mem_cons_self, sumL_congr l fun y hy => h y (List.mem_cons_of_mem _ hy)]
theorem sumL_zero {α : Type} {f : α → Int} (l : List α) (h : ∀ x ∈ l, f x = 0) : sumL f l = 0 := by
  induction l with
  | nil => rfl
  | cons x l ih =>
    show f x + sumL f l = 0
    rw [h x List.mem_cons_self, ih fun y hy => h y (List.mem_cons_of_mem _ hy)]
    rfl
theorem sumL_nonneg {α : Type} {f : α → Int} : ∀ l : List α, (∀ x ∈ l, 0 ≤ f x) → 0 ≤ sumL f l
  | [], _ => Int.le_refl 0
  | x :: l, h => by
    have a := h x List.mem_cons_self
    have b := sumL_nonneg l fun y hy => h y (List.mem_cons_of_mem _ hy)
    show 0 ≤ f x + sumL f l
    omega
theorem sumL_swap {α : Type} (f : α → Nat → Int) (n : Nat) : ∀ l : List α, sumL (fun x => sumR (f x) n) l = sumR (fun j => sumL (fun x => f x j) l) n
  | [] => (sumR_zero n).symm
  | x :: l => by
    show sumR (f x) n + sumL (fun x => sumR (f x) n) l = sumR (fun j => f x j + sumL (fun x => f x j) l) n
    rw [sumR_add, sumL_swap f n l]
theorem sumL_range (f : Nat → Int) : ∀ n, sumL f (List.range n) = sumR f n
  | 0 => rfl
  | n + 1 => by
    rw [List.range_succ, sumL_append, sumL_range f n]
    show sumR f n + (f n + 0) = sumR f n + f n
    omega
/-! ### beginnings -/
/-- (total, group, room, top = 1000 ^ m) -/
structure Bg where
  t : Int
  g : Int
  r : Int
  m : Nat
def W (j : Nat) : Int := 1000 ^ j
theorem W_pos (j : Nat) : 0 < W j := Int.pow_pos (by decide)
theorem W_succ (j : Nat) : W (j + 1) = 1000 * W j := by
  show (1000 : Int) ^ (j + 1) = 1000 * 1000 ^ j
  rw [Int.pow_succ, Int.mul_comm]
theorem W_le {i j : Nat} (h : i ≤ j) : W i ≤ W j := by
  induction h with
  | refl => exact Int.le_refl _
  | step _ ih =>
    rw [W_succ]
    have := W_pos i
    omega
theorem W_lt {i j : Nat} (h : i < j) : 1000 * W i ≤ W j := by
  rw [← W_succ]
  exact W_le h
theorem W_inj {i j : Nat} : W i < W j ↔ i < j := by
  constructor
  · intro h
    rcases Nat.lt_or_ge i j with z | z
    · exact z
    · have := W_le z
      omega
  · intro h
    have a := W_lt h
    have b := W_pos i
    omega
/-- the beginnings that occur -/
def Ok (b : Bg) : Prop := 0 ≤ b.t ∧ ((b.t = 0 ∧ b.g = 0 ∧ b.r = 1 ∧ b.m = 0) ∨ (0 < b.m ∧ (
  (b.g = 0 ∧ b.r = 100) ∨ (1 ≤ b.g ∧ b.g ≤ 9 ∧ b.r = 1) ∨ (∃ d : Int, 1 ≤ d ∧ d ≤ 9 ∧ b.g = 100 * d ∧ b.r = 100) ∨
  (∃ h k : Int, 0 ≤ h ∧ h ≤ 9 ∧ 2 ≤ k ∧ k ≤ 9 ∧ b.g = 100 * h + 10 * k ∧ b.r = 10) ∨ (10 ≤ b.g ∧ b.g ≤ 999 ∧ b.r = 1))))
def has (b : Bg) : Bool := decide (b.t + b.g > 0) || decide (b.r = 1)
def zero : Bg := ⟨0, 0, 1, 0⟩
/-- a word's worth: a number below 100 that has a word, 100, or 1000 ^ (i + 1) -/
inductive Wo where
  | low (n : Int)
  | hun
  | sc (i : Nat)
def Wo.val : Wo → Int
  | .low n => n
  | .hun => 100
  | .sc i => W (i + 1)
def Wo.Ok : Wo → Prop
  | .low n => 0 ≤ n ∧ n < 100
  | .hun => True
  | .sc _ => True
def fol (b : Bg) : Wo → Option Bg
  | .low n =>
    if n = 0 then (if has b then none else some zero)
    else if n ≥ 10 then (if b.r = 100 then some ⟨b.t, b.g + n, if n ≥ 20 then 10 else 1, b.m⟩ else none)
    else if b.r ≥ 10 then some ⟨b.t, b.g + n, 1, b.m⟩ else none
  | .hun => if 0 < b.g ∧ b.g < 10 then some ⟨b.t, b.g * 100, 100, b.m⟩ else none
  | .sc i => if b.g > 0 ∧ i + 1 < b.m then some ⟨b.t + b.g * W (i + 1), 0, 100, i + 1⟩ else none
/-- one scale's share -/
def cj (G : Int → Int) (g r : Int) : Int := (G (g + r) - G g) + if g < 10 then G ((g + 1) * 100) - G (g * 100) else 0
def cf (F : Int → Int) (b : Bg) : Int := if b.g = 0 then F (b.t + W b.m) - F b.t else sumR (fun j => cj (fun n => F (b.t + n * W j)) b.g b.r) b.m
def own (F : Int → Int) (b : Bg) : Int := if has b then F (b.t + b.g + 1) - F (b.t + b.g) else 0
def cfo (F : Int → Int) (b : Bg) (x : Wo) : Int := match fol b x with
  | none => 0
  | some c => cf F c
def lows : List Wo := (List.range 20).map fun n : Nat => .low (n : Int)
def tens : List Wo := (List.range 8).map fun n : Nat => .low (10 * ((n : Int) + 2))
def scs (k : Nat) : List Wo := (List.range k).map fun i => .sc i
def all (k : Nat) : List Wo := .hun :: (lows ++ (tens ++ scs k))
theorem scales_sum {F : Int → Int} {b : Bg} {k : Nat} (hg : 0 < b.g) (hm : 0 < b.m) (hk : b.m ≤ k + 1) :
    F (b.t + b.g + 1) - F (b.t + b.g) + sumL (cfo F b) (scs k) = sumR (fun j => F (b.t + (b.g + 1) * W j) - F (b.t + b.g * W j)) b.m := by
  unfold scs
  rw [sumL_map, sumL_range]
  obtain ⟨m, hm'⟩ : ∃ m, b.m = m + 1 := ⟨b.m - 1, by omega⟩
  have one : ∀ i, cfo F b (.sc i) = if i < m then F (b.t + (b.g + 1) * W (i + 1)) - F (b.t + b.g * W (i + 1)) else 0 := by
    intro i
    unfold cfo fol
    by_cases h : i < m
    · rw [if_pos h]
      simp only
      rw [if_pos ⟨hg, by omega⟩]
      show cf F ⟨b.t + b.g * W (i + 1), 0, 100, i + 1⟩ = _
      unfold cf
      rw [if_pos rfl]
      show F (b.t + b.g * W (i + 1) + W (i + 1)) - F (b.t + b.g * W (i + 1)) = _
      rw [Int.add_mul, Int.one_mul, Int.add_assoc]
    · rw [if_neg h]
      simp only
      rw [if_neg (by omega)]
  have cut : ∀ n, sumR (fun i => cfo F b (.sc i)) n = sumR (fun j => F (b.t + (b.g + 1) * W (j + 1)) - F (b.t + b.g * W (j + 1))) (if n < m then n else m) := by
    intro n
    induction n with
    | zero =>
      by_cases h : 0 < m
      · rw [if_pos h]
        rfl
      · rw [if_neg h, show m = 0 by omega]
        rfl
    | succ n ih =>
      show sumR (fun i => cfo F b (.sc i)) n + cfo F b (.sc n) = _
      rw [ih, one]
      by_cases h : n < m
      · rw [if_pos h, if_pos h]
        by_cases h2 : n + 1 < m
        · rw [if_pos h2]
          rfl
        · rw [if_neg h2, show m = n + 1 by omega]
          rfl
      · rw [if_neg h, if_neg h, if_neg (by omega)]
        omega
  rw [show (fun x => cfo F b (Wo.sc x)) = (fun i => cfo F b (.sc i)) from rfl, cut k, show (if k < m then k else m) = m by split <;> omega, hm']
  generalize hf : (fun j => F (b.t + (b.g + 1) * W j) - F (b.t + b.g * W j)) = f
  have e0 : F (b.t + b.g + 1) - F (b.t + b.g) = f 0 := by
    rw [← hf]
    show _ = F (b.t + (b.g + 1) * 1) - F (b.t + b.g * 1)
    rw [Int.mul_one, Int.mul_one, Int.add_assoc]
  have e1 : (fun j => F (b.t + (b.g + 1) * W (j + 1)) - F (b.t + b.g * W (j + 1))) = fun j => f (j + 1) := by
    rw [← hf]
  rw [e0, e1]
  clear cut one e1 e0
  induction m generalizing b with
  | zero =>
    show f 0 + 0 = 0 + f 0
    omega
  | succ n ih =>
    clear ih hf
    have st : ∀ n, f 0 + sumR (fun j => f (j + 1)) n = sumR f (n + 1) := by
      intro n
      induction n with
      | zero =>
        show f 0 + 0 = 0 + f 0
        omega
      | succ n ih =>
        show f 0 + (sumR (fun j => f (j + 1)) n + f (n + 1)) = sumR f (n + 1) + f (n + 1)
        rw [← ih]
        omega
    exact st (n + 1)
theorem scales_none {F : Int → Int} {b : Bg} {k : Nat} (hg : b.g = 0 ∨ b.m = 0) : sumL (cfo F b) (scs k) = 0 := by
  refine sumL_zero _ fun x hx => ?_
  obtain ⟨i, _, rfl⟩ := List.mem_map.mp hx
  unfold cfo fol
  simp only
  rw [if_neg (by omega)]
/-- the children below hundred and hundred, as pairs (group, room), where they are -/
theorem cf_pos {F : Int → Int} {b : Bg} (h : b.g ≠ 0) : cf F b = sumR (fun j => cj (fun n => F (b.t + n * W j)) b.g b.r) b.m := if_neg h
/-- one scale's share of a word behind b -/
def cjo (F : Int → Int) (b : Bg) (x : Wo) (j : Nat) : Int := match fol b x with
  | none => 0
  | some c => cj (fun n => F (b.t + n * W j)) c.g c.r
def dig : List Wo := [.low 1, .low 2, .low 3, .low 4, .low 5, .low 6, .low 7, .low 8, .low 9]
def teen : List Wo := [.low 10, .low 11, .low 12, .low 13, .low 14, .low 15, .low 16, .low 17, .low 18, .low 19]
def tens1 : List Wo := [.low 20, .low 30, .low 40, .low 50, .low 60, .low 70, .low 80, .low 90]
theorem lows_is : lows = .low 0 :: (dig ++ teen) := rfl
theorem tens_is : tens = tens1 := rfl
/-- a word below hundred but 0, or hundred -/
def Sub : Wo → Prop
  | .low n => 0 < n
  | .hun => True
  | .sc _ => False
theorem cfo_sub {F : Int → Int} {b : Bg} {x : Wo} (h0 : 0 ≤ b.g) (hx : Sub x) : cfo F b x = sumR (cjo F b x) b.m := by
  unfold cfo cjo
  cases x with
  | sc i => exact hx.elim
  | hun =>
    unfold fol
    simp only
    by_cases c : 0 < b.g ∧ b.g < 10
    · rw [if_pos c]
      simp only
      rw [cf_pos (show b.g * 100 ≠ 0 by omega)]
    · rw [if_neg c]
      exact (sumR_zero _).symm
  | low n =>
    have n0 : 0 < n := hx
    unfold fol
    simp only
    rw [if_neg (by omega)]
    by_cases c : n ≥ 10
    · rw [if_pos c]
      by_cases d : b.r = 100
      · rw [if_pos d]
        simp only
        rw [cf_pos (show b.g + n ≠ 0 by omega)]
      · rw [if_neg d]
        exact (sumR_zero _).symm
    · rw [if_neg c]
      by_cases d : b.r ≥ 10
      · rw [if_pos d]
        simp only
        rw [cf_pos (show b.g + n ≠ 0 by omega)]
      · rw [if_neg d]
        exact (sumR_zero _).symm
theorem subs_sum {F : Int → Int} {b : Bg} (h0 : 0 ≤ b.g) {l : List Wo} (hl : ∀ x ∈ l, Sub x) : sumL (cfo F b) l = sumR (fun j => sumL (fun x => cjo F b x j) l) b.m := by
  rw [← sumL_swap]
  exact sumL_congr l fun x hx => cfo_sub h0 (hl x hx)
theorem cjo_dig {F : Int → Int} {b : Bg} {n : Int} {j : Nat} (h1 : 0 < n) (h2 : n < 10) (hr : b.r ≥ 10) : cjo F b (.low n) j = cj (fun n => F (b.t + n * W j)) (b.g + n) 1 := by
  unfold cjo fol
  simp only
  rw [if_neg (by omega), if_neg (by omega), if_pos hr]
theorem cjo_dig0 {F : Int → Int} {b : Bg} {n : Int} {j : Nat} (h1 : 0 < n) (h2 : n < 10) (hr : ¬ b.r ≥ 10) : cjo F b (.low n) j = 0 := by
  unfold cjo fol
  simp only
  rw [if_neg (by omega), if_neg (by omega), if_neg hr]
theorem cjo_ten {F : Int → Int} {b : Bg} {n : Int} {j : Nat} (h1 : 10 ≤ n) (hr : b.r = 100) : cjo F b (.low n) j = cj (fun n => F (b.t + n * W j)) (b.g + n) (if n ≥ 20 then 10 else 1) := by
  unfold cjo fol
  simp only
  rw [if_neg (by omega), if_pos h1, if_pos hr]
theorem cjo_ten0 {F : Int → Int} {b : Bg} {n : Int} {j : Nat} (h1 : 10 ≤ n) (hr : ¬ b.r = 100) : cjo F b (.low n) j = 0 := by
  unfold cjo fol
  simp only
  rw [if_neg (by omega), if_pos h1, if_neg hr]
theorem cjo_hun {F : Int → Int} {b : Bg} {j : Nat} (h1 : 0 < b.g) (h2 : b.g < 10) : cjo F b .hun j = cj (fun n => F (b.t + n * W j)) (b.g * 100) 100 := by
  unfold cjo fol
  simp only
  rw [if_pos ⟨h1, h2⟩]
theorem cjo_hun0 {F : Int → Int} {b : Bg} {j : Nat} (h : ¬ (0 < b.g ∧ b.g < 10)) : cjo F b .hun j = 0 := by
  unfold cjo fol
  simp only
  rw [if_neg h]
theorem cj_big {G : Int → Int} {g r : Int} (h : ¬ g < 10) : cj G g r = G (g + r) - G g := by
  unfold cj
  rw [if_neg h]
  omega
theorem cj_small {G : Int → Int} {g r : Int} (h : g < 10) : cj G g r = (G (g + r) - G g) + (G ((g + 1) * 100) - G (g * 100)) := by
  unfold cj
  rw [if_pos h]
/-- nine digits behind g -/
theorem dig_sum {F : Int → Int} {b : Bg} {j : Nat} (hg : 10 ≤ b.g) (hr : b.r ≥ 10) : sumL (fun x => cjo F b x j) dig = F (b.t + (b.g + 10) * W j) - F (b.t + (b.g + 1) * W j) := by
  have one : ∀ n : Int, 0 < n → n < 10 → cjo F b (.low n) j = F (b.t + (b.g + (n + 1)) * W j) - F (b.t + (b.g + n) * W j) := by
    intro n h1 h2
    rw [cjo_dig h1 h2 hr, cj_big (by omega)]
    simp only [Int.add_assoc]
  unfold dig
  simp only [sumL]
  rw [one 1 (by decide) (by decide), one 2 (by decide) (by decide), one 3 (by decide) (by decide), one 4 (by decide) (by decide), one 5 (by decide) (by decide), one 6 (by decide) (by decide), one 7 (by decide) (by decide), one 8 (by decide) (by decide), one 9 (by decide) (by decide)]
  simp only [Int.reduceAdd]
  omega
theorem dig_sum0 {F : Int → Int} {b : Bg} {j : Nat} (hg : b.g = 0) (hr : b.r ≥ 10) : sumL (fun x => cjo F b x j) dig = (F (b.t + 10 * W j) - F (b.t + 1 * W j)) + (F (b.t + 1000 * W j) - F (b.t + 100 * W j)) := by
  have one : ∀ n : Int, 0 < n → n < 10 → cjo F b (.low n) j = (F (b.t + (n + 1) * W j) - F (b.t + n * W j)) + (F (b.t + ((n + 1) * 100) * W j) - F (b.t + (n * 100) * W j)) := by
    intro n h1 h2
    rw [cjo_dig h1 h2 hr, cj_small (by omega), hg]
    simp only [Int.zero_add]
  unfold dig
  simp only [sumL]
  rw [one 1 (by decide) (by decide), one 2 (by decide) (by decide), one 3 (by decide) (by decide), one 4 (by decide) (by decide), one 5 (by decide) (by decide), one 6 (by decide) (by decide), one 7 (by decide) (by decide), one 8 (by decide) (by decide), one 9 (by decide) (by decide)]
  simp only [Int.reduceAdd, Int.reduceMul]
  omega
theorem teen_sum {F : Int → Int} {b : Bg} {j : Nat} (hg : 0 ≤ b.g) (hr : b.r = 100) : sumL (fun x => cjo F b x j) teen = F (b.t + (b.g + 20) * W j) - F (b.t + (b.g + 10) * W j) := by
  have one : ∀ n : Int, 10 ≤ n → n < 20 → cjo F b (.low n) j = F (b.t + (b.g + (n + 1)) * W j) - F (b.t + (b.g + n) * W j) := by
    intro n h1 h2
    rw [cjo_ten h1 hr, if_neg (by omega), cj_big (by omega)]
    simp only [Int.add_assoc]
  unfold teen
  simp only [sumL]
  rw [one 10 (by decide) (by decide), one 11 (by decide) (by decide), one 12 (by decide) (by decide), one 13 (by decide) (by decide), one 14 (by decide) (by decide), one 15 (by decide) (by decide), one 16 (by decide) (by decide), one 17 (by decide) (by decide), one 18 (by decide) (by decide), one 19 (by decide) (by decide)]
  simp only [Int.reduceAdd]
  omega
theorem tens_sum {F : Int → Int} {b : Bg} {j : Nat} (hg : 0 ≤ b.g) (hr : b.r = 100) : sumL (fun x => cjo F b x j) tens1 = F (b.t + (b.g + 100) * W j) - F (b.t + (b.g + 20) * W j) := by
  have one : ∀ n : Int, 20 ≤ n → cjo F b (.low n) j = F (b.t + (b.g + (n + 10)) * W j) - F (b.t + (b.g + n) * W j) := by
    intro n h1
    rw [cjo_ten (by omega) hr, if_pos (by omega), cj_big (by omega)]
    simp only [Int.add_assoc]
  unfold tens1
  simp only [sumL]
  rw [one 20 (by decide), one 30 (by decide), one 40 (by decide), one 50 (by decide), one 60 (by decide), one 70 (by decide), one 80 (by decide), one 90 (by decide)]
  simp only [Int.reduceAdd]
  omega
theorem none_sum {F : Int → Int} {b : Bg} {j : Nat} {l : List Wo} (h : ∀ x ∈ l, cjo F b x j = 0) : sumL (fun x => cjo F b x j) l = 0 := sumL_zero l h
theorem teen_mem {x : Wo} (h : x ∈ teen) : ∃ n, 10 ≤ n ∧ x = .low n := by
  unfold teen at h
  simp only [List.mem_cons, List.not_mem_nil, or_false] at h
  rcases h with h | h | h | h | h | h | h | h | h | h <;> exact ⟨_, by decide, h⟩
theorem tens_mem {x : Wo} (h : x ∈ tens1) : ∃ n, 10 ≤ n ∧ x = .low n := by
  unfold tens1 at h
  simp only [List.mem_cons, List.not_mem_nil, or_false] at h
  rcases h with h | h | h | h | h | h | h | h <;> exact ⟨_, by decide, h⟩
theorem dig_mem {x : Wo} (h : x ∈ dig) : ∃ n, 0 < n ∧ n < 10 ∧ x = .low n := by
  unfold dig at h
  simp only [List.mem_cons, List.not_mem_nil, or_false] at h
  rcases h with h | h | h | h | h | h | h | h | h <;> exact ⟨_, by decide, by decide, h⟩
theorem all_split {F : Int → Int} {b : Bg} {k : Nat} (h0 : 0 ≤ b.g) : sumL (cfo F b) (all k) = cfo F b (.low 0) + sumR (fun j => cjo F b .hun j + (sumL (fun x => cjo F b x j) dig + (sumL (fun x => cjo F b x j) teen + sumL (fun x => cjo F b x j) tens1))) b.m + sumL (cfo F b) (scs k) := by
  have e : sumL (cfo F b) (.hun :: (dig ++ (teen ++ tens1))) = sumR (fun j => sumL (fun x => cjo F b x j) (.hun :: (dig ++ (teen ++ tens1)))) b.m := subs_sum h0 fun x hx => by
    rcases List.mem_cons.mp hx with rfl | hx
    · trivial
    rcases List.mem_append.mp hx with hx | hx
    · obtain ⟨n, h1, _, rfl⟩ := dig_mem hx
      exact h1
    rcases List.mem_append.mp hx with hx | hx
    · obtain ⟨n, h1, rfl⟩ := teen_mem hx
      show 0 < n
      omega
    · obtain ⟨n, h1, rfl⟩ := tens_mem hx
      show 0 < n
      omega
  have e2 : (fun j => sumL (fun x => cjo F b x j) (.hun :: (dig ++ (teen ++ tens1)))) = fun j => cjo F b .hun j + (sumL (fun x => cjo F b x j) dig + (sumL (fun x => cjo F b x j) teen + sumL (fun x => cjo F b x j) tens1)) := by
    funext j
    show cjo F b .hun j + sumL (fun x => cjo F b x j) (dig ++ (teen ++ tens1)) = _
    rw [sumL_append, sumL_append]
  rw [e2] at e
  rw [← e]
  unfold all
  rw [lows_is, tens_is]
  show cfo F b .hun + sumL (cfo F b) ((.low 0 :: (dig ++ teen)) ++ (tens1 ++ scs k)) = cfo F b (.low 0) + (cfo F b .hun + sumL (cfo F b) (dig ++ (teen ++ tens1))) + sumL (cfo F b) (scs k)
  rw [sumL_append, sumL_append, sumL_append, sumL_append]
  show cfo F b .hun + (cfo F b (.low 0) + sumL (cfo F b) (dig ++ teen) + (sumL (cfo F b) tens1 + sumL (cfo F b) (scs k))) = _
  rw [sumL_append]
  omega
theorem zero_none {F : Int → Int} {b : Bg} (h : has b = true) : cfo F b (.low 0) = 0 := by
  unfold cfo fol
  simp only
  rw [if_pos trivial, if_pos h]
/-- THE COUNT: the names that begin so are the whole one and those that go on with a word -/
theorem count {F : Int → Int} {b : Bg} {k : Nat} (ok : Ok b) (hk : b.m ≤ k + 1) : cf F b = own F b + sumL (cfo F b) (all k) := by
  obtain ⟨t0, h | ⟨m0, h⟩⟩ := ok
  · obtain ⟨e1, e2, e3, e4⟩ := h
    have hb : has b = true := by
      unfold has
      rw [e3]
      simp
    rw [all_split (by omega), zero_none hb, e4, scales_none (.inr e4)]
    unfold cf own
    rw [if_pos e2, if_pos hb, e4, e2, e1]
    show F (0 + W 0) - F 0 = F (0 + 0 + 1) - F (0 + 0) + (0 + 0 + 0)
    rw [show W 0 = 1 from rfl]
    show F 1 - F 0 = F 1 - F 0 + 0
    omega
  rcases h with ⟨e2, e3⟩ | h
  · -- nothing yet in this group
    rw [all_split (by omega), scales_none (.inl e2)]
    have z : sumR (fun j => cjo F b .hun j + (sumL (fun x => cjo F b x j) dig + (sumL (fun x => cjo F b x j) teen + sumL (fun x => cjo F b x j) tens1))) b.m = F (b.t + W b.m) - F (b.t + 1) := by
      rw [sumR_congr (g := fun j => F (b.t + W (j + 1)) - F (b.t + W j)) b.m fun j _ => ?_, sumR_tel (fun j => F (b.t + W j))]
      · rfl
      · rw [cjo_hun0 (by omega), dig_sum0 e2 (by omega), teen_sum (by omega) e3, tens_sum (by omega) e3, e2, W_succ]
        simp only [Int.zero_add, Int.one_mul]
        omega
    rw [z]
    unfold cf own
    rw [if_pos e2]
    by_cases hb : b.t > 0
    · have h1 : has b = true := by
        unfold has
        rw [decide_eq_true (show b.t + b.g > 0 by omega)]
        rfl
      rw [zero_none h1, if_pos h1, e2, Int.add_zero]
      omega
    · have h1 : has b = false := by
        unfold has
        rw [decide_eq_false (show ¬ b.t + b.g > 0 by omega), decide_eq_false (show ¬ b.r = 1 by omega)]
        rfl
      have e : b.t = 0 := by omega
      rw [h1, if_neg Bool.false_ne_true]
      have c0 : cfo F b (.low 0) = F (0 + 1) - F 0 := by
        unfold cfo fol
        simp only
        rw [if_pos trivial, h1, if_neg Bool.false_ne_true]
        show cf F zero = _
        unfold cf zero
        rw [if_pos rfl]
        rfl
      rw [c0, e]
      omega
  -- a group with words
  have g0 : 0 < b.g := by
    rcases h with ⟨h1, _⟩ | ⟨d, h1, _, h2, _⟩ | ⟨x, y, h1, _, h2, _, h3, _⟩ | ⟨h1, _⟩ <;> omega
  have hb : has b = true := by
    unfold has
    rw [decide_eq_true (show b.t + b.g > 0 by omega)]
    rfl
  have sc := scales_sum (F := F) (k := k) g0 m0 hk
  rw [all_split (by omega), zero_none hb, cf_pos (by omega)]
  unfold own
  rw [if_pos hb]
  have fin : ∀ f : Nat → Int, (∀ j, j < b.m → cj (fun n => F (b.t + n * W j)) b.g b.r = f j + (F (b.t + (b.g + 1) * W j) - F (b.t + b.g * W j))) → sumR (fun j => cj (fun n => F (b.t + n * W j)) b.g b.r) b.m = F (b.t + b.g + 1) - F (b.t + b.g) + (0 + sumR f b.m + sumL (cfo F b) (scs k)) := by
    intro f hf
    rw [sumR_congr b.m hf, sumR_add, ← sc]
    omega
  refine fin _ fun j _ => ?_
  rcases h with ⟨h1, h2, h3⟩ | ⟨d, h1, h2, h3, h4⟩ | ⟨x, y, h1, h2, h3, h4, h5, h6⟩ | ⟨h1, h2, h3⟩
  · rw [cjo_hun g0 (by omega), none_sum (l := dig), none_sum (l := teen), none_sum (l := tens1), cj_small (by omega), cj_big (by omega), h3]
    · simp only [Int.add_mul b.g 1 100, Int.one_mul]
      omega
    · intro x hx
      obtain ⟨n, h1, rfl⟩ := tens_mem hx
      exact cjo_ten0 h1 (by omega)
    · intro x hx
      obtain ⟨n, h1, rfl⟩ := teen_mem hx
      exact cjo_ten0 h1 (by omega)
    · intro x hx
      obtain ⟨n, h1, h2, rfl⟩ := dig_mem hx
      exact cjo_dig0 h1 h2 (by omega)
  · rw [cjo_hun0 (by omega), dig_sum (by omega) (by omega), teen_sum (by omega) h4, tens_sum (by omega) h4, cj_big (by omega), h4]
    omega
  · rw [cjo_hun0 (by omega), dig_sum (by omega) (by omega), none_sum (l := teen), none_sum (l := tens1), cj_big (by omega), h6]
    · omega
    · intro x hx
      obtain ⟨n, h1, rfl⟩ := tens_mem hx
      exact cjo_ten0 h1 (by omega)
    · intro x hx
      obtain ⟨n, h1, rfl⟩ := teen_mem hx
      exact cjo_ten0 h1 (by omega)
  · rw [cjo_hun0 (by omega), none_sum (l := dig), none_sum (l := teen), none_sum (l := tens1), cj_big (by omega), h3]
    · omega
    · intro x hx
      obtain ⟨n, h1, rfl⟩ := tens_mem hx
      exact cjo_ten0 h1 (by omega)
    · intro x hx
      obtain ⟨n, h1, rfl⟩ := teen_mem hx
      exact cjo_ten0 h1 (by omega)
    · intro x hx
      obtain ⟨n, h1, h2, rfl⟩ := dig_mem hx
      exact cjo_dig0 h1 h2 (by omega)
end Bg
set_option Elab.async false
set_option linter.all false
set_option maxRecDepth 100000
set_option maxHeartbeats 4000000
namespace Bg
theorem Ok.bnd {b : Bg} (ok : Ok b) : 0 ≤ b.t ∧ 0 ≤ b.g ∧ 1 ≤ b.r ∧ b.r ≤ 100 ∧ b.g + b.r ≤ 1000 ∧ b.g ≤ 999 := by
  obtain ⟨t0, ⟨_, h2, h3, _⟩ | ⟨_, h⟩⟩ := ok
  · omega
  · rcases h with ⟨h1, h2⟩ | ⟨h1, h2, h3⟩ | ⟨d, h1, h2, h3, h4⟩ | ⟨x, y, h1, h2, h3, h4, h5, h6⟩ | ⟨h1, h2, h3⟩ <;> omega
/-- the words that a table can have below hundred -/
def WOk : Wo → Prop
  | .low n => (0 ≤ n ∧ n < 20) ∨ ∃ k : Int, 2 ≤ k ∧ k ≤ 9 ∧ n = 10 * k
  | .hun => True
  | .sc _ => True
theorem all_ok {k : Nat} {x : Wo} (h : x ∈ all k) : WOk x := by
  rcases List.mem_cons.mp h with rfl | h
  · trivial
  rcases List.mem_append.mp h with h | h
  · obtain ⟨n, hn, rfl⟩ := List.mem_map.mp h
    have := List.mem_range.mp hn
    exact .inl ⟨by omega, by omega⟩
  rcases List.mem_append.mp h with h | h
  · obtain ⟨n, hn, rfl⟩ := List.mem_map.mp h
    have := List.mem_range.mp hn
    exact .inr ⟨(n : Int) + 2, by omega, by omega, rfl⟩
  · obtain ⟨n, hn, rfl⟩ := List.mem_map.mp h
    trivial
theorem fol_ok {b c : Bg} {x : Wo} (ok : Ok b) (hx : WOk x) (h : fol b x = some c) : Ok c := by
  obtain ⟨t0, z⟩ := ok
  have t0' := t0
  cases x with
  | hun =>
    unfold fol at h
    simp only at h
    by_cases q : 0 < b.g ∧ b.g < 10
    · rw [if_pos q] at h
      cases h
      rcases z with z | ⟨m0, z⟩
      · omega
      · exact ⟨t0, .inr ⟨m0, .inr (.inr (.inl ⟨b.g, by omega, by omega, Int.mul_comm _ _, rfl⟩))⟩⟩
    · rw [if_neg q] at h
      cases h
  | sc i =>
    unfold fol at h
    simp only at h
    by_cases q : b.g > 0 ∧ i + 1 < b.m
    · rw [if_pos q] at h
      cases h
      refine ⟨?_, .inr ⟨Nat.succ_pos i, .inl ⟨rfl, rfl⟩⟩⟩
      have := W_pos (i + 1)
      have := Int.mul_nonneg (Int.le_of_lt q.1) (Int.le_of_lt this)
      show 0 ≤ b.t + b.g * W (i + 1)
      omega
    · rw [if_neg q] at h
      cases h
  | low n =>
    unfold fol at h
    simp only at h
    by_cases q0 : n = 0
    · rw [if_pos q0] at h
      cases hb : has b with
      | true =>
        rw [hb, if_pos rfl] at h
        cases h
      | false =>
        rw [hb, if_neg Bool.false_ne_true] at h
        cases h
        exact ⟨Int.le_refl _, .inl ⟨rfl, rfl, rfl, rfl⟩⟩
    · rw [if_neg q0] at h
      by_cases q1 : n ≥ 10
      · rw [if_pos q1] at h
        by_cases q2 : b.r = 100
        · rw [if_pos q2] at h
          cases h
          rcases z with z | ⟨m0, z⟩
          · omega
          · refine ⟨t0, .inr ⟨m0, ?_⟩⟩
            obtain ⟨e, e0, e9, hg⟩ : ∃ e : Int, 0 ≤ e ∧ e ≤ 9 ∧ b.g = 100 * e := by
              rcases z with ⟨h1, _⟩ | ⟨h1, h2, h3⟩ | ⟨d, h1, h2, h3, h4⟩ | ⟨x, y, h1, h2, h3, h4, h5, h6⟩ | ⟨h1, h2, h3⟩
              · exact ⟨0, by omega, by omega, by omega⟩
              · omega
              · exact ⟨d, by omega, by omega, h3⟩
              · omega
              · omega
            rcases hx with hx | ⟨k, k2, k9, rfl⟩
            · rw [if_neg (by omega)]
              exact .inr (.inr (.inr (.inr ⟨by show 10 ≤ b.g + n; omega, by show b.g + n ≤ 999; omega, rfl⟩)))
            · rw [if_pos (by omega)]
              exact .inr (.inr (.inr (.inl ⟨e, k, e0, e9, k2, k9, by show b.g + 10 * k = _; omega, rfl⟩)))
        · rw [if_neg q2] at h
          cases h
      · rw [if_neg q1] at h
        by_cases q2 : b.r ≥ 10
        · rw [if_pos q2] at h
          cases h
          have n0 : 0 < n := by
            rcases hx with hx | ⟨k, k2, k9, rfl⟩ <;> omega
          rcases z with z | ⟨m0, z⟩
          · omega
          · refine ⟨t0, .inr ⟨m0, ?_⟩⟩
            rcases z with ⟨h1, _⟩ | ⟨h1, h2, h3⟩ | ⟨d, h1, h2, h3, h4⟩ | ⟨x, y, h1, h2, h3, h4, h5, h6⟩ | ⟨h1, h2, h3⟩
            · exact .inr (.inl ⟨by show 1 ≤ b.g + n; omega, by show b.g + n ≤ 9; omega, rfl⟩)
            · omega
            · exact .inr (.inr (.inr (.inr ⟨by show 10 ≤ b.g + n; omega, by show b.g + n ≤ 999; omega, rfl⟩)))
            · exact .inr (.inr (.inr (.inr ⟨by show 10 ≤ b.g + n; omega, by show b.g + n ≤ 999; omega, rfl⟩)))
            · omega
        · rw [if_neg q2] at h
          cases h
theorem fol_m {b c : Bg} {x : Wo} (h : fol b x = some c) : c.m ≤ b.m := by
  unfold fol at h
  split at h
  · split at h
    · split at h
      · cases h
      · cases h
        exact Nat.zero_le _
    · split at h
      · split at h
        · cases h
          exact Nat.le_refl _
        · cases h
      · split at h
        · cases h
          exact Nat.le_refl _
        · cases h
  · split at h
    · cases h
      exact Nat.le_refl _
    · cases h
  · split at h
    · rename_i q
      cases h
      show _ + 1 ≤ b.m
      omega
    · cases h
/-- how far a beginning can still go -/
def far (b : Bg) : Nat := 6 * b.m + (if b.g = 0 then (if b.m = 0 then 0 else 5) else if b.g < 10 then 4 else if b.r = 100 then 3 else if b.r = 10 then 2 else 1)
theorem fol_far {b c : Bg} {x : Wo} (ok : Ok b) (hx : WOk x) (h : fol b x = some c) : far c < far b := by
  obtain ⟨t0, z⟩ := ok
  unfold far
  cases x with
  | hun =>
    unfold fol at h
    simp only at h
    by_cases q : 0 < b.g ∧ b.g < 10
    · rw [if_pos q] at h
      cases h
      show 6 * b.m + (if b.g * 100 = 0 then _ else if b.g * 100 < 10 then _ else if (100 : Int) = 100 then 3 else _) < _
      rw [if_neg (by omega), if_neg (by omega), if_pos rfl, if_neg (by omega), if_pos q.2]
      omega
    · rw [if_neg q] at h
      cases h
  | sc i =>
    unfold fol at h
    simp only at h
    by_cases q : b.g > 0 ∧ i + 1 < b.m
    · rw [if_pos q] at h
      cases h
      show 6 * (i + 1) + (if (0 : Int) = 0 then (if i + 1 = 0 then 0 else 5) else _) < _
      rw [if_pos rfl, if_neg (by omega)]
      omega
    · rw [if_neg q] at h
      cases h
  | low n =>
    unfold fol at h
    simp only at h
    by_cases q0 : n = 0
    · rw [if_pos q0] at h
      cases hb : has b with
      | true =>
        rw [hb, if_pos rfl] at h
        cases h
      | false =>
        rw [hb, if_neg Bool.false_ne_true] at h
        cases h
        show 0 < _
        rcases z with z | ⟨m0, z⟩
        · exfalso
          unfold has at hb
          rw [z.2.2.1] at hb
          simp at hb
        · omega
    · rw [if_neg q0] at h
      have n0 : 0 < n := by
        rcases hx with hx | ⟨k, k2, k9, rfl⟩ <;> omega
      by_cases q1 : n ≥ 10
      · rw [if_pos q1] at h
        by_cases q2 : b.r = 100
        · rw [if_pos q2] at h
          cases h
          have zz : b.g = 0 ∧ 0 < b.m ∨ b.g ≥ 100 := by
            rcases z with z | ⟨m0, z⟩
            · omega
            · rcases z with ⟨h1, _⟩ | ⟨h1, h2, h3⟩ | ⟨d, h1, h2, h3, h4⟩ | ⟨x, y, h1, h2, h3, h4, h5, h6⟩ | ⟨h1, h2, h3⟩ <;> omega
          show 6 * b.m + (if b.g + n = 0 then _ else if b.g + n < 10 then _ else if (if n ≥ 20 then (10 : Int) else 1) = 100 then _ else if (if n ≥ 20 then (10 : Int) else 1) = 10 then 2 else 1) < _
          rw [if_neg (by omega), if_neg (by omega), if_neg (by split <;> omega)]
          have two : ∀ (p : Prop) [Decidable p], (if p then 2 else 1) ≤ 2 := fun p _ => by split <;> omega
          have := two ((if n ≥ 20 then (10 : Int) else 1) = 10)
          rcases zz with ⟨h1, h2⟩ | h1
          · rw [if_pos h1, if_neg (show ¬ b.m = 0 by omega)]
            omega
          · rw [if_neg (show ¬ b.g = 0 by omega), if_neg (show ¬ b.g < 10 by omega), if_pos q2]
            omega
        · rw [if_neg q2] at h
          cases h
      · rw [if_neg q1] at h
        by_cases q2 : b.r ≥ 10
        · rw [if_pos q2] at h
          cases h
          show 6 * b.m + (if b.g + n = 0 then _ else if b.g + n < 10 then 4 else if (1 : Int) = 100 then _ else if (1 : Int) = 10 then _ else 1) < _
          have zz : b.g = 0 ∧ 0 < b.m ∨ b.g ≥ 10 := by
            rcases z with z | ⟨m0, z⟩
            · omega
            · rcases z with ⟨h1, _⟩ | ⟨h1, h2, h3⟩ | ⟨d, h1, h2, h3, h4⟩ | ⟨x, y, h1, h2, h3, h4, h5, h6⟩ | ⟨h1, h2, h3⟩ <;> omega
          rcases zz with ⟨h1, h2⟩ | h1
          · rw [if_neg (show ¬ b.g + n = 0 by omega), if_pos (show b.g + n < 10 by omega), if_pos h1, if_neg (show ¬ b.m = 0 by omega)]
            omega
          · rw [if_neg (show ¬ b.g + n = 0 by omega), if_neg (show ¬ b.g + n < 10 by omega), if_neg (by decide), if_neg (by decide), if_neg (show ¬ b.g = 0 by omega), if_neg (show ¬ b.g < 10 by omega)]
            by_cases q3 : b.r = 100
            · rw [if_pos q3]
              omega
            · rw [if_neg q3, if_pos]
              · omega
              · rcases z with z | ⟨m0, z⟩
                · omega
                · rcases z with ⟨h1, _⟩ | ⟨h1, h2, h3⟩ | ⟨d, h1, h2, h3, h4⟩ | ⟨x, y, h1, h2, h3, h4, h5, h6⟩ | ⟨h1, h2, h3⟩ <;> omega
        · rw [if_neg q2] at h
          cases h
/-! ### what the program counts -/
def ovj (lo hi : Int) (b : Bg) (j : Nat) : Int := ov lo hi (b.t + b.g * W j) (b.t + (b.g + b.r) * W j) + if b.g < 10 then ov lo hi (b.t + b.g * 100 * W j) (b.t + (b.g + 1) * 100 * W j) else 0
theorem ovj_cj {lo hi : Int} {b : Bg} (ok : Ok b) (j : Nat) : ovj lo hi b j = cj (fun n => fb lo hi (b.t + n * W j)) b.g b.r := by
  obtain ⟨h1, h2, h3, h4, h5, h6⟩ := ok.bnd
  have w := W_pos j
  unfold ovj cj
  have le : ∀ {x y : Int}, x ≤ y → b.t + x * W j ≤ b.t + y * W j := fun h => Int.add_le_add_left (Int.mul_le_mul_of_nonneg_right h (Int.le_of_lt w)) _
  rw [ov_fb (le (by omega)), ov_fb (le (by omega))]
theorem cf_code {lo hi : Int} {b : Bg} (ok : Ok b) (h : b.g ≠ 0) : cf (fb lo hi) b = sumR (ovj lo hi b) b.m := by
  rw [cf_pos h]
  exact (sumR_congr b.m fun j _ => ovj_cj ok j).symm
theorem cf_code0 {lo hi : Int} {b : Bg} (h : b.g = 0) : cf (fb lo hi) b = ov lo hi b.t (b.t + W b.m) := by
  have w := W_pos b.m
  rw [ov_fb (by omega)]
  unfold cf
  rw [if_pos h]
theorem cf_out {lo hi : Int} {b : Bg} (ok : Ok b) (h : hi < b.t ∨ lo ≥ b.t + W b.m) : cf (fb lo hi) b = 0 := by
  obtain ⟨h1, h2, h3, h4, h5, h6⟩ := ok.bnd
  unfold cf
  split
  · exact fb_same (by have := W_pos b.m; omega) (by omega)
  · refine (sumR_congr b.m fun j hj => ?_).trans (sumR_zero b.m)
    have w := W_pos j
    have w2 := W_lt hj
    have lo_ : ∀ {x : Int}, 0 ≤ x → 0 ≤ x * W j := fun h => Int.mul_nonneg h (Int.le_of_lt w)
    have hi_ : ∀ {x : Int}, x ≤ 1000 → x * W j ≤ W b.m := fun h => Int.le_trans (Int.mul_le_mul_of_nonneg_right h (Int.le_of_lt w)) w2
    have le : ∀ {x y : Int}, x ≤ y → x * W j ≤ y * W j := fun h => Int.mul_le_mul_of_nonneg_right h (Int.le_of_lt w)
    have z : ∀ {x y : Int}, 0 ≤ x → x ≤ y → y ≤ 1000 → fb lo hi (b.t + y * W j) - fb lo hi (b.t + x * W j) = 0 := by
      intro x y a1 a2 a3
      have p1 := lo_ a1
      have p2 := hi_ a3
      have p3 := le a2
      exact fb_same (by omega) (by omega)
    unfold cj
    simp only
    rw [z h2 (by omega) h5]
    split
    · rw [z (by omega) (by omega) (by omega)]
      rfl
    · rfl
theorem cf_nonneg {lo hi : Int} {b : Bg} (ok : Ok b) : 0 ≤ cf (fb lo hi) b := by
  obtain ⟨h1, h2, h3, h4, h5, h6⟩ := ok.bnd
  unfold cf
  split
  · have := fb_mono (lo := lo) (hi := hi) (show b.t ≤ b.t + W b.m by have := W_pos b.m; omega)
    omega
  · refine sumR_nonneg b.m fun j _ => ?_
    have w := W_pos j
    have le : ∀ {x y : Int}, x ≤ y → b.t + x * W j ≤ b.t + y * W j := fun h => Int.add_le_add_left (Int.mul_le_mul_of_nonneg_right h (Int.le_of_lt w)) _
    unfold cj
    simp only
    have a := fb_mono (lo := lo) (hi := hi) (le (show b.g ≤ b.g + b.r by omega))
    split
    · have c := fb_mono (lo := lo) (hi := hi) (le (show b.g * 100 ≤ (b.g + 1) * 100 by omega))
      omega
    · omega
def start (k : Nat) : Bg := ⟨0, 0, 100, k + 1⟩
theorem start_ok (k : Nat) : Ok (start k) := ⟨Int.le_refl _, .inr ⟨Nat.succ_pos k, .inl ⟨rfl, rfl⟩⟩⟩
theorem start_all {lo hi : Int} {k : Nat} (h0 : 0 ≤ lo) (h1 : lo ≤ hi) (h2 : hi < W (k + 1)) : cf (fb lo hi) (start k) = hi - lo + 1 := by
  unfold cf start
  rw [if_pos rfl]
  show fb lo hi (0 + W (k + 1)) - fb lo hi 0 = _
  rw [fb_high (by omega) h1, fb_low (by omega)]
  omega
/-- the program's test of an own number -/
theorem own_code {lo hi : Int} {b : Bg} (h : lo ≤ hi) : own (fb lo hi) b = if (has b && (decide (lo ≤ b.t + b.g) && decide (b.t + b.g ≤ hi))) = true then 1 else 0 := by
  unfold own
  cases has b with
  | false =>
    rw [if_neg Bool.false_ne_true]
    rfl
  | true =>
    rw [if_pos rfl, fb_one h]
    simp only [Bool.true_and, Bool.and_eq_true, decide_eq_true_eq]
theorem own_nonneg {lo hi : Int} {b : Bg} (h : lo ≤ hi) : 0 ≤ own (fb lo hi) b := by
  rw [own_code h]
  split <;> decide
end Bg
set_option Elab.async false
set_option linter.all false
set_option maxRecDepth 100000
set_option maxHeartbeats 4000000
/-! The program's own: beginnings, one by one. -/
namespace LB
open PySem L2 Wk
open Bg (Bg)
/-- a beginning as the program holds it -/
def BgV (b : Bg) : List V := [.int b.t, .int b.g, .int b.r, .int (Bg.W b.m)]
def spHas (K : PySem.W.Frag) : Sp := fun vs H Q _ => ∃ (p : Addr) (b : Bg), vs = [.ref p] ∧ SqT K H p (BgV b) ∧ Q (.bl (Bg.has b)) H
def spOverlap : Sp := fun vs H Q _ => ∃ a e lo hi : Int, vs = [.int a, .int e, .int lo, .int hi] ∧ Q (.int (Bg.ov lo hi a e)) H
def spOwn (K : PySem.W.Frag) : Sp := fun vs H Q _ => ∃ (p : Addr) (b : Bg), vs = [.ref p] ∧ SqT K H p (BgV b) ∧ Q (.int (b.t + b.g)) H
def endsB (lo hi : Int) (b : Bg) : Bool := Bg.has b && (decide (lo ≤ b.t + b.g) && decide (b.t + b.g ≤ hi))
def spEnds (K : PySem.W.Frag) : Sp := fun vs H Q _ => ∃ (p : Addr) (b : Bg) (lo hi : Int), vs = [.ref p, .int lo, .int hi] ∧ SqT K H p (BgV b) ∧ Q (.bl (endsB lo hi b)) H
def spCount (K : PySem.W.Frag) : Sp := fun vs H Q _ => ∃ (p : Addr) (b : Bg) (lo hi : Int), vs = [.ref p, .int lo, .int hi] ∧ SqT K H p (BgV b) ∧ Bg.Ok b ∧ Q (.int (Bg.cf (Bg.fb lo hi) b)) H
section
variable {P : Program} {w : World} {K : PySem.W.Frag} {mg : Str → Option Value} {base : Heap}
theorem scHas : FnScope ["beginning", "total", "group", "room", "_"] ["beginning"] (defScope sHas) := ⟨rfl, rfl, rfl, by decide +kernel, rfl, by decide +kernel, by decide +kernel⟩
theorem ok_has {f : Addr} {fd : FuncData} (F : Fun K "_has_words" "_has_words" sHas f fd) : FnOk P w K mg base CX0 1 f fd ["beginning"] (spHas K) := by
  refine F.ok scHas (fun vs H Q E h => ?_) (fun cdv A outer s H vs Q E hr h => ?_)
  · obtain ⟨p, b, rfl, _⟩ := h
    rfl
  · obtain ⟨p, b, rfl, hb, k⟩ := h
    refine ⟨_, pss_cons (ps_asg (pv 0) (pg_tup (by rfl) (pgs_cons (pg_name (i := 1) scHas.nd rfl (.inl rfl)) (pgs_cons (pg_name (i := 2) scHas.nd rfl (.inl rfl)) (pgs_cons (pg_name (i := 3) scHas.nd rfl (.inl rfl)) (pgs_cons (pg_name (i := 4) scHas.nd rfl (.inl rfl)) pgs_nil))))))
      (pss_one (ps_ret (pe_or (pe_cmpR op_gt (pe_op op_add (pv 1) (pv 2)) pe_int (nomark _)) (pe_one (pe_cmpR op_eq (pv 3) pe_int (nomark _)))))), ?_⟩
    refine ⟨_, rfl, p, _, rfl, hb, rfl, _, _, rfl, _, _, rfl, _, _, rfl, _, _, rfl, rfl, ?_⟩
    refine ⟨_, rfl, _, rfl, _, _, rfl, rfl, _, _, rfl, rfl, _, rfl, ?_⟩
    unfold Bg.has at k
    by_cases c : b.t + b.g > 0
    · rw [decide_eq_true c] at k ⊢
      exact iteT k
    · rw [decide_eq_false c] at k ⊢
      refine iteF ⟨_, rfl, rfl, ?_⟩
      have e : decide (V.int b.r = V.int 1) = decide (b.r = 1) := decide_eq_decide.mpr ⟨fun z => V.int.inj z, fun z => by rw [z]⟩
      rw [e]
      exact k
theorem scOverlap : FnScope ["first", "end", "low", "high"] ["first", "end", "low", "high"] (defScope sOverlap) := ⟨rfl, rfl, rfl, by decide +kernel, rfl, by decide +kernel, by decide +kernel⟩
theorem ok_overlap {f : Addr} {fd : FuncData} (F : Fun K "_overlap" "_overlap" sOverlap f fd) (mX : mg "max" = none) (mN : mg "min" = none) : FnOk P w K mg base CX0 1 f fd ["first", "end", "low", "high"] spOverlap := by
  refine F.ok scOverlap (fun vs H Q E h => ?_) (fun cdv A outer s H vs Q E hr h => ?_)
  · obtain ⟨a, e, lo, hi, rfl, _⟩ := h
    rfl
  · obtain ⟨a, e, lo, hi, rfl, k⟩ := h
    refine ⟨_, pss_one (ps_ret (pe_callB (call_max2 rfl) (by rfl) mX (by decide +kernel) (pa_cons pe_int (pa_cons (pe_op op_add (pe_op op_sub
      (pe_callB (call_min2 rfl) (by rfl) mN (by decide +kernel) (pa_cons (pe_op op_sub (pv 1) pe_int) (pa_cons (pv 3) pa_nil)))
      (pe_callB (call_max2 rfl) (by rfl) mX (by decide +kernel) (pa_cons (pv 0) (pa_cons (pv 2) pa_nil)))) pe_int) pa_nil)))), ?_⟩
    refine ⟨_, rfl, _, _, rfl, rfl, _, rfl, _, _, rfl, _, rfl, _, rfl, _, _, rfl, _, _, rfl, rfl, _, _, rfl, rfl, _, _, rfl, ?_⟩
    exact k
theorem scOwn : FnScope ["beginning", "total", "group", "_"] ["beginning"] (defScope sOwn) := ⟨rfl, rfl, rfl, by decide +kernel, rfl, by decide +kernel, by decide +kernel⟩
theorem ok_own {f : Addr} {fd : FuncData} (F : Fun K "own_number" "own_number" sOwn f fd) : FnOk P w K mg base CX0 1 f fd ["beginning"] (spOwn K) := by
  refine F.ok scOwn (fun vs H Q E h => ?_) (fun cdv A outer s H vs Q E hr h => ?_)
  · obtain ⟨p, b, rfl, _⟩ := h
    rfl
  · obtain ⟨p, b, rfl, hb, k⟩ := h
    refine ⟨_, pss_cons (ps_asg (pv 0) (pg_tup (by rfl) (pgs_cons (pg_name (i := 1) scOwn.nd rfl (.inl rfl)) (pgs_cons (pg_name (i := 2) scOwn.nd rfl (.inl rfl)) (pgs_cons (pg_name (i := 3) scOwn.nd rfl (.inl rfl)) (pgs_cons (pg_name (i := 3) scOwn.nd rfl (.inl rfl)) pgs_nil))))))
      (pss_one (ps_ret (pe_op op_add (pv 1) (pv 2)))), ?_⟩
    exact ⟨_, rfl, p, _, rfl, hb, rfl, _, _, rfl, _, _, rfl, _, _, rfl, _, _, rfl, rfl, _, rfl, _, rfl, _, _, rfl, rfl, k⟩
theorem scEnds : FnScope ["beginning", "low", "high"] ["beginning", "low", "high"] (defScope sEnds) := ⟨rfl, rfl, rfl, by decide +kernel, rfl, by decide +kernel, by decide +kernel⟩
theorem ok_ends {f fH fO : Addr} {fd dH dO : FuncData} (F : Fun K "ends_within" "ends_within" sEnds f fd) (DH : Def1 P w K mg base "_has_words" 1 fH dH ["beginning"] (spHas K)) (DO : Def1 P w K mg base "own_number" 1 fO dO ["beginning"] (spOwn K)) :
    FnOk P w K mg base CX0 2 f fd ["beginning", "low", "high"] (spEnds K) := by
  refine F.ok scEnds (fun vs H Q E h => ?_) (fun cdv A outer s H vs Q E hr h => ?_)
  · obtain ⟨p, b, lo, hi, rfl, _⟩ := h
    rfl
  · obtain ⟨p, b, lo, hi, rfl, hb, k⟩ := h
    refine ⟨_, pss_one (ps_ret (pe_and (pe_call DH.ok hr (by rfl) DH.g DH.k DH.b .nil pass0 (pa_cons (pv 0) pa_nil))
      (pe_one (pe_chain op_le op_le (pv 1) (pe_call DO.ok hr (by rfl) DO.g DO.k DO.b .nil pass0 (pa_cons (pv 0) pa_nil)) (pv 2))))), ?_⟩
    refine ⟨_, rfl, p, b, rfl, hb, _, rfl, ?_⟩
    unfold endsB at k
    cases c : Bg.has b with
    | false =>
      rw [c] at k
      exact iteF k
    | true =>
      rw [c] at k
      refine iteT ⟨_, rfl, _, rfl, p, b, rfl, hb, _, _, rfl, rfl, _, rfl, ?_⟩
      by_cases d : lo ≤ b.t + b.g
      · rw [decide_eq_true d] at k ⊢
        exact iteT ⟨_, rfl, _, _, rfl, rfl, k⟩
      · rw [decide_eq_false d] at k ⊢
        exact iteF k
theorem scCount : FnScope ["beginning", "low", "high", "total", "group", "room", "top", "many", "worth"] ["beginning", "low", "high"] (defScope sCount) := ⟨rfl, rfl, rfl, by decide +kernel, rfl, by decide +kernel, by decide +kernel⟩
theorem ok_count {f fO : Addr} {fd dO : FuncData} (F : Fun K "count_within" "count_within" sCount f fd) (DO : Def1 P w K mg base "_overlap" 1 fO dO ["first", "end", "low", "high"] spOverlap) :
    FnOk P w K mg base CX0 2 f fd ["beginning", "low", "high"] (spCount K) := by
  refine F.ok scCount (fun vs H Q E h => ?_) (fun cdv A outer s H vs Q E hr h => ?_)
  · obtain ⟨p, b, lo, hi, rfl, _⟩ := h
    rfl
  · obtain ⟨p, b, lo, hi, rfl, hb, ok, k⟩ := h
    have bd := ok.bnd
    refine ⟨_, pss_cons (ps_asg (pv 0) (pg_tup (by rfl) (pgs_cons (pg_name (i := 3) scCount.nd rfl (.inl rfl)) (pgs_cons (pg_name (i := 4) scCount.nd rfl (.inl rfl)) (pgs_cons (pg_name (i := 5) scCount.nd rfl (.inl rfl)) (pgs_cons (pg_name (i := 6) scCount.nd rfl (.inl rfl)) pgs_nil))))))
      (pss_cons (ps_if (PW.pt (pw_or (pt_cmpR op_lt (pv 2) (pv 3) (nomark _)) (pw_or1 (pt_cmpR op_ge (pv 1) (pe_op op_add (pv 3) (pv 6)) (nomark _))))) (pss_one (ps_ret pe_int)) pss_nil)
      (pss_cons (ps_if (pt_cmpR op_eq (pv 4) pe_int (nomark _)) (pss_one (ps_ret (pe_call DO.ok hr (by rfl) DO.g DO.k DO.b .nil pass0 (pa_cons (pv 3) (pa_cons (pe_op op_add (pv 3) (pv 6)) (pa_cons (pv 1) (pa_cons (pv 2) pa_nil))))))) pss_nil)
      (pss_cons (ps_set (i := 7) scCount.nd rfl (.inl rfl) pe_int)
      (pss_cons (ps_set (i := 8) scCount.nd rfl (.inl rfl) pe_int)
      (pss_cons (ps_while PassesOwn.never (pt_cmpR op_lt (pv 8) (pv 6) (nomark _))
        (pss_cons (ps_set (i := 7) scCount.nd rfl (.inl rfl) (pe_op op_add (pv 7) (pe_call DO.ok hr (by rfl) DO.g DO.k DO.b .nil pass0
          (pa_cons (pe_op op_add (pv 3) (pe_op op_mul (pv 4) (pv 8))) (pa_cons (pe_op op_add (pv 3) (pe_op op_mul (pe_op op_add (pv 4) (pv 5)) (pv 8))) (pa_cons (pv 1) (pa_cons (pv 2) pa_nil)))))))
        (pss_mid (ps_if (pt_cmpR op_lt (pv 4) pe_int (nomark _)) (pss_one (ps_set (i := 7) scCount.nd rfl (.inl rfl) (pe_op op_add (pv 7) (pe_call DO.ok hr (by rfl) DO.g DO.k DO.b .nil pass0
          (pa_cons (pe_op op_add (pv 3) (pe_op op_mul (pe_op op_mul (pv 4) pe_int) (pv 8))) (pa_cons (pe_op op_add (pv 3) (pe_op op_mul (pe_op op_mul (pe_op op_add (pv 4) pe_int) pe_int) (pv 8))) (pa_cons (pv 1) (pa_cons (pv 2) pa_nil)))))))) pss_nil)
        (pss_one (ps_set (i := 8) scCount.nd rfl (.inl rfl) (pe_op op_mul (pv 8) pe_int))))))
      (pss_one (ps_ret (pv 7)))))))), ?_⟩
    refine ⟨_, rfl, p, _, rfl, hb, rfl, _, _, rfl, _, _, rfl, _, _, rfl, _, _, rfl, rfl, ?_⟩
    refine ⟨_, rfl, _, rfl, _, _, rfl, rfl, _, rfl, ite2 (fun c => ?_) (fun c => ?_)⟩
    · refine iteT ?_
      rw [Bg.cf_out ok (.inl (of_decide_eq_true c))] at k
      exact k
    refine ⟨_, rfl, _, rfl, _, rfl, _, _, rfl, rfl, _, _, rfl, rfl, _, rfl, ite2 (fun d => ?_) (fun d => ?_)⟩
    · rw [Bg.cf_out ok (.inr (of_decide_eq_true d))] at k
      exact k
    refine ⟨_, rfl, rfl, _, rfl, ite2 (fun z => ?_) (fun z => ?_)⟩
    · have g0 : b.g = 0 := V.int.inj (of_decide_eq_true z)
      rw [Bg.cf_code0 g0] at k
      exact ⟨_, rfl, _, rfl, _, rfl, _, _, rfl, rfl, _, rfl, _, rfl, _, _, _, _, rfl, k⟩
    have g0 : b.g ≠ 0 := fun y => z (decide_eq_true (by rw [y]))
    rw [Bg.cf_code ok g0] at k
    refine while_by (fun σ H2 => H2 = H ∧ ∃ j : Nat, j ≤ b.m ∧ σ = [some (.ref p), some (.int lo), some (.int hi), some (.int b.t), some (.int b.g), some (.int b.r), some (.int (Bg.W b.m)), some (.int (Bg.sumR (Bg.ovj lo hi b) j)), some (.int (Bg.W j))])
      (fun σ _ => match σ with | [_, _, _, _, _, _, _, _, some (.int x)] => (Bg.W b.m - x).toNat | _ => 0) ⟨rfl, 0, Nat.zero_le _, rfl⟩ ?_ ?_
    · rintro σ H2 ⟨rfl, j, hj, rfl⟩
      refine ⟨_, rfl, _, rfl, _, _, rfl, rfl, _, rfl, ite2 (fun q => ?_) (fun q => ?_)⟩
      · have jm : j < b.m := Bg.W_inj.mp (of_decide_eq_true q)
        have wl := Bg.W_lt jm
        have wp := Bg.W_pos j
        refine ⟨_, rfl, _, rfl, _, rfl, _, rfl, _, _, rfl, rfl, .inl ⟨by omega, by omega⟩, _, _, rfl, rfl, _, rfl, _, rfl, _, rfl, _, _, rfl, rfl, _, rfl, _, _, rfl, rfl, .inl ⟨by omega, by omega⟩, _, _, rfl, rfl, _, rfl, _, rfl, _, _, _, _, rfl, _, _, rfl, rfl, ?_⟩
        refine ⟨fun τ H3 => H3 = H2 ∧ τ = [some (.ref p), some (.int lo), some (.int hi), some (.int b.t), some (.int b.g), some (.int b.r), some (.int (Bg.W b.m)), some (.int (Bg.sumR (Bg.ovj lo hi b) (j + 1))), some (.int (Bg.W j))], ?_, ?_⟩
        · refine ⟨_, rfl, _, _, rfl, rfl, _, rfl, ite2 (fun y => ?_) (fun y => ?_)⟩
          · refine ⟨_, rfl, _, rfl, _, rfl, _, _, rfl, rfl, .inl ⟨by omega, by omega⟩, _, rfl, _, _, rfl, rfl, .inl ⟨by omega, by omega⟩, _, _, rfl, rfl, _, rfl, _, rfl, _, _, rfl, rfl, _, _, rfl, rfl, .inl ⟨by omega, by omega⟩, _, rfl, _, _, rfl, rfl, .inl ⟨by omega, by omega⟩, _, _, rfl, rfl, _, rfl, _, rfl, _, _, _, _, rfl, _, _, rfl, rfl, rfl, ?_⟩
            show _ = [_, _, _, _, _, _, _, some (V.int (Bg.sumR (Bg.ovj lo hi b) j + Bg.ovj lo hi b j)), _]
            unfold Bg.ovj
            rw [if_pos (of_decide_eq_true y), ← Int.add_assoc]
            rfl
          · refine ⟨rfl, ?_⟩
            show _ = [_, _, _, _, _, _, _, some (V.int (Bg.sumR (Bg.ovj lo hi b) j + Bg.ovj lo hi b j)), _]
            unfold Bg.ovj
            rw [if_neg (fun x => y (decide_eq_true x)), Int.add_zero]
            rfl
        · rintro τ H3 ⟨rfl, rfl⟩
          refine ⟨_, rfl, _, _, rfl, rfl, .inr ⟨by decide, by decide⟩, ⟨rfl, j + 1, jm, ?_⟩, ?_⟩
          · rw [Bg.W_succ, Int.mul_comm]
            rfl
          · show (Bg.W b.m - Bg.W j * 1000).toNat < (Bg.W b.m - Bg.W j).toNat
            omega
      · have e : j = b.m := by
          have : ¬ j < b.m := fun y => q (decide_eq_true (Bg.W_inj.mpr y))
          omega
        subst e
        exact ⟨_, rfl, k⟩
    · rintro σ H2 Q1 Q2 m ⟨x1, h1, x2, h2, i, j, hi, hj, y, hy, q⟩
      exact ⟨x1, h1, x2, h2, i, j, hi, hj, y, hy, m _ _ q⟩
end
end LB
set_option Elab.async false
set_option linter.all false
set_option maxRecDepth 100000
set_option maxHeartbeats 4000000
/-! sorted(d.items()), d a dict from texts to numbers: the pairs in the order of the texts. -/
namespace WkI
open PySem PySem.Spec PyProof.Rows L2 SrtO PySem.W
/-- v is a pair (x, M x) -/
def PairSI (h : Heap) (v : Value) (x : Str) (i : Int) : Prop := ∃ (a : Addr) (t u : Tok), v = .ref a ∧ IsTup h a #[.str x t, .int i u]
theorem PairSI.keeps {h h' : Heap} {v : Value} {x : Str} {i : Int} (p : PairSI h v x i) (k : ∀ b o, h.get? b = some o → o.cls = .type "tuple" → h'.get? b = some o) : PairSI h' v x i := by
  obtain ⟨a, t, u, e, o, ho, hc, r⟩ := p
  exact ⟨a, t, u, e, o, k _ _ ho hc, hc, r⟩
/-- the text of a pair, read off the heap -/
def kx (h : Heap) (v : Value) : Str := DT.txOf (DT.seqAt0 h (DT.refOf (some v)))
theorem PairSI.kx {h : Heap} {v : Value} {x : Str} {i : Int} (p : PairSI h v x i) : kx h v = x := by
  obtain ⟨a, t, u, rfl, p⟩ := p
  show DT.txOf (DT.seqAt0 h a) = x
  rw [DT.seqAt0_of p]
  rfl
def ltS (x y : Str) : Bool := decide (x.cps.toList < y.cps.toList)
theorem swoS {α : Type} (f : α → Str) : Swo fun v u => ltS (f v) (f u) := by
  refine ⟨fun x y h => ?_, fun x y z h1 h2 => ?_⟩
  · have a := of_decide_eq_true h
    exact decide_eq_false (List.lt_asymm a)
  · have a := of_decide_eq_false h1
    have b := of_decide_eq_false h2
    refine decide_eq_false ?_
    rw [List.not_lt] at *
    exact List.le_trans a b
theorem ltS_tri {x y : Str} (h1 : ltS x y = false) (h2 : ltS y x = false) : x = y := by
  have a := of_decide_eq_false h1
  have b := of_decide_eq_false h2
  rw [List.not_lt] at *
  have e := List.le_antisymm b a
  obtain ⟨⟨l⟩⟩ := x
  obtain ⟨⟨m⟩⟩ := y
  have e' : l = m := e
  rw [e']
theorem strs_of {h : Heap} : ∀ vs : List Value, (∀ v ∈ vs, ∃ x i, PairSI h v x i) → ∃ fs : List Value, KatTups h vs fs ∧ fs.length = vs.length ∧ ∀ f ∈ fs, ∃ (x : Str) (t : Tok), f = Value.str x t
  | [], _ => ⟨[], KatTups.nil, rfl, fun f hf => by simp at hf⟩
  | v :: vs, x => by
    obtain ⟨fs, k, hl, hi⟩ := strs_of vs fun u hu => x u (List.mem_cons_of_mem _ hu)
    obtain ⟨y, i, a, t, u, rfl, o, ho, hc, n, hd⟩ := x v (List.mem_cons_self ..)
    refine ⟨.str y t :: fs, KatTups.cons ho hc hd rfl k, by rw [List.length_cons, List.length_cons, hl], fun f hf => ?_⟩
    rcases List.mem_cons.mp hf with rfl | hf
    · exact ⟨y, t, rfl⟩
    · exact hi f hf
section
variable {prog : Program} {w : World} {A : Around} {E : Value → Shared → Prop} {s : Shared}
theorem pair_cmpS {vs : List Value} {k : Value → Str} {M : Str → Int} (hp : ∀ v ∈ vs, PairSI s.heap v (k v) (M (k v))) : SrtO.Cmp prog w A s (tuples' true) (fun p => p.1 ∈ vs) (lt2 fun v u => ltS (k v) (k u)) := by
  intro p q hm hm'
  have h1 := hp _ hm
  have h2 := hp _ hm'
  show wpAny (model prog w) A (keyLt' (tuples' true) p.1 q.1) (fun r s' => s' = s ∧ r = ltS (k p.1) (k q.1)) (fun _ _ => False) s
  generalize k p.1 = x at h1 ⊢
  generalize k q.1 = x' at h2 ⊢
  obtain ⟨a, t, u, e, o, ho, hc, n, hd⟩ := h1
  obtain ⟨a', t', u', e', o', ho', hc', n', hd'⟩ := h2
  rw [e, e']
  refine kat_lt ho hd ho' hd' ?_
  show KatLex prog w A true (decide (2 < 2)) _ [(.str x t, .str x' t'), (.int (M x) u, .int (M x') u')] 0 s
  refine kat_cons (PySem.SeqAt.EqAt.str_str (A := A) (s := s) x t x' t' prog w _ _ ?_)
  refine kat_go (fun e1 => ?_) (fun e1 => ?_)
  · have ex : x = x' := by simpa using e1
    subst ex
    refine kat_yes (kat_cons (SeqAt.EqAt.int_int (M x) u (M x) u' prog w _ _ ?_))
    have e4 : ltS x x = false := decide_eq_false (List.lt_irrefl _)
    refine kat_go (fun e2 => ?_) (fun e2 => ?_)
    · refine kat_yes (kat_nil ⟨rfl, ?_⟩)
      rw [e4]
      rfl
    · exact absurd e2 (by simp)
  · exact kat_no (PyProof.Rows.oneLt_str ⟨rfl, rfl⟩)
theorem pairs_sortableS {a : Addr} {vs : List Value} {k : Value → Str} {M : Str → Int} (h0 : 0 < vs.length) (hp : ∀ v ∈ vs, PairSI s.heap v (k v) (M (k v))) (ha : ∀ o, s.heap.get? a = some o → o.cls ≠ .type "tuple") : SortableO prog w A s a vs fun v u => ltS (k v) (k u) := by
  intro h' keep
  have hp' : ∀ v ∈ vs, PairSI h' v (k v) (M (k v)) := fun v hm => (hp v hm).keeps fun b o e c => keep b o (fun z => by subst z; exact ha o e c) e
  obtain ⟨fs, h1, h2, h3⟩ := strs_of vs fun v hm => ⟨_, _, hp' v hm⟩
  refine ⟨tuples' true, fun Q E hq => ?_, pair_cmpS hp'⟩
  refine kat_kind (T := .type "str") h1 (by omega) (fun f hm => ?_) (by rfl) ?_
  · obtain ⟨x, t, rfl⟩ := h3 f hm
    exact Looks.now
  · have e : (Value.type "str" != Value.type "tuple") = true := by first | decide +kernel | rfl | decide
    rw [e]
    exact hq
end
theorem pairs_at {P : Program} {w : World} : ∀ {es : List DictEntry} {kvs : List (Key × Value)}, Pairs (mixKind P w) es kvs → ∀ {j : Nat} {e : DictEntry}, es[j]? = some e → ∃ kv, kvs[j]? = some kv ∧ keyIs kv.1 e.key = true ∧ e.val = kv.2
  | _, _, .nil, j, e, h => by cases h
  | _, _, .cons (kv := kv) h1 h2 t, 0, e, h => by
    have e' := Option.some.inj h
    subst e'
    exact ⟨kv, rfl, h1, h2⟩
  | _, _, .cons h1 h2 t, j + 1, e, h => pairs_at t h
section
variable {X : Cx}
def rItemsK : V → List V → Hp → VK → Prop := fun x xs H Q => ∃ (a : Addr) (kvs : List (Key × V)), x = .ref a ∧ xs = [] ∧ H a = some (.dK kvs) ∧ ∀ p, H p = none → Q (.ref p) (upd H p (DX.itemsO p a))
theorem mt_itemsK : MtR X "dict.items" rItemsK := by
  intro pins s σ H x xs v us Q I rx rxs h
  obtain ⟨a, kvs, rfl, rfl, ha, q⟩ := h
  cases rx
  cases rxs
  obtain ⟨hz, hs0, vs, kv, o, es, ep, ho, hx, hdat, _⟩ := I.hok a _ ha
  refine DT.callItems (es := es) (ep := ep) hs0 ⟨o, ho, hx, hdat⟩ ?_
  have hf : H s.heap.objs.size = none := I.hok.fresh (Nat.le_refl _)
  exact ⟨.ref s.heap.objs.size, upd H s.heap.objs.size (DX.itemsO s.heap.objs.size a), I.laid (t' := s.toks) (fun b u e => Heap.get?_push_of_some _ e) (Nat.le_refl _) (DX.itemsO_ok (Heap.get?_push_size _ rfl)), rfl, q _ hf⟩
abbrev entS (e : Str × Int) : Key × V := (Sum.inr e.1, V.int e.2)
/-- sorted(d.items()) -/
def rSortItK : List V → Hp → VK → Prop := fun vs H Q => ∃ (p a : Addr) (ks : List (Str × Int)), vs = [.ref p] ∧ H p = some (DX.itemsO p a) ∧ H a = some (.dK (ks.map entS)) ∧ ks.length ≤ 1000 ∧
  ∀ (H' : Hp) (l : Addr) (ps : List (Addr × Str × Int)), Same H H' → H l = none → (ps.map (·.2)).Perm ks → (ps.map (·.2)).Pairwise (fun e f => ltS e.1 f.1 = true) → H' l = some (.lst (ps.map fun z => V.ref z.1)) →
    (∀ z ∈ ps, H z.1 = none ∧ H' z.1 = some (.tup [.str z.2.1, .int z.2.2])) → Q (.ref l) H'
theorem cr_sortedItK (hc : X.calm = true) : CallR X (.builtin "sorted") rSortItK := by
  intro pins s σ H xs us Q I r h
  obtain ⟨p, a, ks, rfl, hp, ha, h1000, q⟩ := h
  obtain rfl := Vals.ref1 r
  have view : s.heap.IsItemsView p a := (show ObjOk X.prog X.w H s.heap p (DX.itemsO p a) from I.hok p _ hp).1
  obtain ⟨hz, hs0, vs, kv, o, es, ep, ho, hx, hdat, hks, hps, hn⟩ := I.hok a _ ha
  have l1 : (ks.map entS).length = vs.length := Paired.length kv
  rw [List.length_map] at l1
  have l2 : es.size = vs.length := by
    have := Pairs.length hps
    rw [Array.length_toList] at this
    exact this
  have hh : X.A.handled = none := I.ok.hd hc
  have big : 1000 ≤ sizeLine := by decide
  refine DT.sortedI (es := es) (ep := ep) hh view ⟨o, ho, hx, hdat⟩ (by omega) fun h' tk as hk hlt hl hG => ?_
  have lak : as.length = ks.length := by omega
  have nd : as.Nodup := List.Pairwise.imp (fun h => Nat.ne_of_lt h) hG.rise
  -- the pairs that were made
  have pr : ∀ (j : Nat) (b : Addr), as[j]? = some b → ∃ (e : Str × Int) (t u : Tok), ks[j]? = some e ∧ h'.get? b = some { cls := .type "tuple", data := .seq #[Value.str e.1 t, Value.int e.2 u] } := by
    intro j b hj
    obtain ⟨en, he, hg⟩ := hG.pairs j b hj
    rw [← Array.getElem?_toList] at he
    obtain ⟨kv1, hkv, k1, k2⟩ := pairs_at hps he
    obtain ⟨e0, he0, r1, r2⟩ := DX.pget kv hkv
    rw [List.getElem?_map] at he0
    cases hkj : ks[j]? with
    | none =>
      rw [hkj] at he0
      cases he0
    | some e =>
      rw [hkj] at he0
      have ee : entS e = e0 := Option.some.inj he0
      rw [← ee] at r1 r2
      rw [← r1] at k1
      obtain ⟨t, et⟩ : ∃ t, en.key = Value.str e.1 t := relV_key k1
      rw [← k2] at r2
      obtain ⟨u, eu⟩ : ∃ u, en.val = Value.int e.2 u := r2
      rw [et, eu] at hg
      exact ⟨e, t, u, rfl, hg⟩
  have keysN : (ks.map (·.1)).Nodup := by
    have e1 : vs.map (·.1) = ks.map fun e => (Sum.inr e.1 : Key) := by
      have : ∀ {l : List (Str × Int)} {m : List (Key × Value)}, KV (l.map entS) m → m.map (·.1) = l.map fun e => (Sum.inr e.1 : Key) := by
        intro l
        induction l with
        | nil =>
          intro m h
          cases h
          rfl
        | cons x l ih =>
          intro m h
          cases h with
          | cons h t =>
            rw [List.map_cons, List.map_cons, ih t, ← h.1]
      exact this kv
    rw [e1] at hn
    have e2 : (ks.map fun e => (Sum.inr e.1 : Key)) = (ks.map (·.1)).map fun x => (Sum.inr x : Key) := by
      rw [List.map_map]
      rfl
    rw [e2] at hn
    exact (List.pairwise_map.mp hn).imp fun h z => h (by rw [z])
  -- each text's number
  let M : Str → Int := fun x => ((ks.find? fun e => decide (e.1 = x)).map (·.2)).getD 0
  have hM : ∀ e ∈ ks, M e.1 = e.2 := by
    intro e he
    have : ∀ l : List (Str × Int), (l.map (·.1)).Nodup → e ∈ l → l.find? (fun f => decide (f.1 = e.1)) = some e := by
      intro l
      induction l with
      | nil => intro _ h; cases h
      | cons x l ih =>
        intro n h
        rw [List.map_cons, List.nodup_cons] at n
        rcases List.mem_cons.mp h with z | z
        · subst z
          rw [List.find?_cons_of_pos (by simp)]
        · rw [List.find?_cons_of_neg, ih n.2 z]
          intro c
          have c' := of_decide_eq_true c
          exact n.1 (by rw [c']; exact List.mem_map.mpr ⟨e, z, rfl⟩)
    show ((ks.find? fun f => decide (f.1 = e.1)).map (·.2)).getD 0 = e.2
    rw [this ks keysN he]
    rfl
  -- the heap of the sort
  have hob : (h'.push { cls := .type "list", data := .seq (as.map Value.ref).toArray }).get? h'.objs.size = some (seqObj "list" (as.map Value.ref).toArray 0) := Heap.get?_push_size _ rfl
  have kb : ∀ b o, s.heap.get? b = some o → (h'.push { cls := .type "list", data := .seq (as.map Value.ref).toArray }).get? b = some o := fun b o e => Heap.get?_push_of_some _ (hk b o e)
  have ne0 : ∀ b o, h'.get? b = some o → b ≠ h'.objs.size := fun b o e => Nat.ne_of_lt (Heap.lt_size e)
  generalize hh2 : h'.push { cls := .type "list", data := .seq (as.map Value.ref).toArray } = h2 at hob kb ⊢
  have ka : ∀ b o, h'.get? b = some o → h2.get? b = some o := fun b o e => by rw [← hh2]; exact Heap.get?_push_of_some _ e
  have pin : ∀ (j : Nat) (b : Addr), as[j]? = some b → ∃ e : Str × Int, ks[j]? = some e ∧ PairSI h2 (.ref b) e.1 e.2 := by
    intro j b hj
    obtain ⟨e, t, u, he, hg⟩ := pr j b hj
    exact ⟨e, he, b, t, u, rfl, _, ka _ _ hg, rfl, 0, rfl⟩
  have tx : ∀ (j : Nat) (b : Addr) (e : Str × Int), as[j]? = some b → ks[j]? = some e → kx h2 (.ref b) = e.1 := by
    intro j b e hj he
    obtain ⟨e', he', hp'⟩ := pin j b hj
    have ee : e' = e := Option.some.inj (he'.symm.trans he)
    rw [← ee]
    exact hp'.kx
  have at_ : ∀ v ∈ as.map Value.ref, ∃ (j : Nat) (b : Addr) (e : Str × Int), v = .ref b ∧ as[j]? = some b ∧ ks[j]? = some e := by
    intro v hv'
    obtain ⟨b, hb, rfl⟩ := List.mem_map.mp hv'
    obtain ⟨j, hj⟩ := List.mem_iff_getElem?.mp hb
    obtain ⟨e, he, _⟩ := pin j b hj
    exact ⟨j, b, e, rfl, hj, he⟩
  have pairs : ∀ v ∈ as.map Value.ref, PairSI h2 v (kx h2 v) (M (kx h2 v)) := by
    intro v hv
    obtain ⟨j, b, e, rfl, hj, he⟩ := at_ v hv
    obtain ⟨e', he', hp'⟩ := pin j b hj
    have ee : e' = e := Option.some.inj (he'.symm.trans he)
    subst ee
    rw [tx j b e' hj he, hM e' (List.mem_of_getElem? he)]
    exact hp'
  refine wpAny_call_entry PyProof.Rows.slot_list_sort ⟨_, hob, rfl⟩ PyProof.Rows.entry_list_sort
    (SrtO.list_sort_ord (s := { s with heap := h2, toks := tk }) (swoS (kx h2)) hob (by rw [List.length_map]; omega) (fun hl2 => pairs_sortableS (M := M) (by omega) pairs fun o e => ?_) fun out o1 o2 => ⟨.none, rfl, ?_⟩) (PyProof.Rows.args_list_sort _)
  · have e' : some o = some (seqObj "list" (as.map Value.ref).toArray 0) := e.symm.trans hob
    cases e'
    intro c
    exact absurd (Value.type.inj c) (by decide)
  · show EP X pins σ Q (.ref h'.objs.size) { s with heap := sortedHeap h2 h'.objs.size (as.map Value.ref) out.toArray, toks := tk }
    obtain ⟨zs, pz, ez⟩ := perm_lift (fun z : Addr × Str × Int => Value.ref z.1) o2.perm (as.zip ks) (by
      rw [show (fun z : Addr × Str × Int => Value.ref z.1) = Value.ref ∘ Prod.fst from rfl, ← List.map_map, List.map_fst_zip (by rw [lak]; exact Nat.le_refl _)])
    have idx : ∀ z ∈ zs, ∃ j : Nat, as[j]? = some z.1 ∧ ks[j]? = some z.2 := by
      intro z' hz'
      obtain ⟨j, hj⟩ := List.mem_iff_getElem?.mp (pz.mem_iff.mp hz')
      exact ⟨j, List.getElem?_zip_eq_some.mp hj⟩
    have hperm : (zs.map (·.2)).Perm ks := by
      have e := pz.map (·.2)
      have m2 : (as.zip ks).map (·.2) = ks := List.map_snd_zip (by rw [lak]; exact Nat.le_refl _)
      rw [m2] at e
      exact e
    have hkn : ((zs.map (·.2)).map (·.1)).Nodup := (hperm.map (·.1)).nodup_iff.mpr keysN
    have hsort : (zs.map (·.2)).Pairwise (fun e f => ltS e.1 f.1 = true) := by
      have o1' : (zs.map fun z => Value.ref z.1).Pairwise fun x y => ltS (kx h2 y) (kx h2 x) = false := by
        rw [ez]
        exact o1
      rw [List.pairwise_map] at o1'
      rw [List.map_map] at hkn
      have both := List.Pairwise.and o1' (List.pairwise_map.mp hkn)
      rw [List.pairwise_map]
      refine List.Pairwise.imp_of_mem (fun {x y} hx hy h => ?_) both
      obtain ⟨j, j1, j2⟩ := idx x hx
      obtain ⟨i, i1, i2⟩ := idx y hy
      obtain ⟨h1, h3⟩ := h
      rw [tx j _ _ j1 j2, tx i _ _ i1 i2] at h1
      cases e : ltS x.2.1 y.2.1 with
      | true => rfl
      | false => exact absurd (ltS_tri e h1) h3
    -- behind the sort
    have kF : ∀ b o, b ≠ h'.objs.size → h2.get? b = some o → (sortedHeap h2 h'.objs.size (as.map Value.ref) out.toArray).get? b = some o := fun b o hb e => (PyProof.Rows.sortedHeap_old hb (Heap.lt_size e)).trans e
    have kS : ∀ b o, s.heap.get? b = some o → (sortedHeap h2 h'.objs.size (as.map Value.ref) out.toArray).get? b = some o := fun b o e => kF b o (ne0 _ _ (hk b o e)) (kb b o e)
    obtain ⟨eF, heF⟩ := PyProof.Rows.sortedHeap_at (vs := as.map Value.ref) (out := out.toArray) hob
    have I1 : Inv X pins σ H { s with heap := sortedHeap h2 h'.objs.size (as.map Value.ref) out.toArray, toks := tk } := I.kept (t' := tk) kS
    have hn0 : H h'.objs.size = none := I.hok.fresh (Nat.le_of_lt hlt)
    have hlen : (zs.map fun z => V.ref z.1).length ≤ sizeLine := by
      have e := hperm.length_eq
      rw [List.length_map] at e
      rw [List.length_map]
      omega
    have rv : Vals (zs.map fun z => V.ref z.1) out := by
      rw [← ez]
      exact vals_maps (fun z : Addr × Str × Int => V.ref z.1) (fun z => Value.ref z.1) zs fun _ _ => rfl
    have I2 : Inv X pins σ (upd H h'.objs.size (.lst (zs.map fun z => V.ref z.1))) { s with heap := sortedHeap h2 h'.objs.size (as.map Value.ref) out.toArray, toks := tk } :=
      I1.take (h' := sortedHeap h2 h'.objs.size (as.map Value.ref) out.toArray) (t' := tk) (fun b ob _ e => e) (I.fpOk (Nat.le_of_lt hlt) hn0) ⟨hlen, out, eF, rv, heF⟩
    obtain ⟨H2, I3, g, qt⟩ := DX.takeT (P := fun b vs => ∃ (j : Nat) (e : Str × Int), as[j]? = some b ∧ ks[j]? = some e ∧ vs = [.str e.1, .int e.2]) I as _ I2 nd fun b hb => by
      obtain ⟨j, hj⟩ := List.mem_iff_getElem?.mp hb
      obtain ⟨e, t, u, he, hg⟩ := pr j b hj
      have hbl : s.heap.objs.size ≤ b := Nat.le_of_lt (hG.above b hb)
      refine ⟨hbl, ?_, [.str e.1, .int e.2], ⟨j, e, hj, he, rfl⟩, fun H3 => ⟨(by rw [sizeLine_eq]; show 2 ≤ 16777216; omega), [Value.str e.1 t, Value.int e.2 u], .cons ⟨t, rfl⟩ (.cons ⟨u, rfl⟩ .nil), ⟨_, kF _ _ (ne0 _ _ hg) (ka _ _ hg), rfl, 0, rfl⟩⟩⟩
      rw [upd_ne (ne0 _ _ hg)]
      exact I.hok.fresh hbl
    have gr : ∀ b o, H b = some o → H2 b = some o := fun b o e => g b o (by rw [upd_ne (ne_of_none e hn0)]; exact e)
    refine ⟨.ref h'.objs.size, H2, I3, rfl, q H2 h'.objs.size zs gr hn0 hperm hsort (g _ _ upd_same) fun z' hz' => ?_⟩
    obtain ⟨i, i1, i2⟩ := idx z' hz'
    refine ⟨I.hok.fresh (Nat.le_of_lt (hG.above _ (List.mem_of_getElem? i1))), ?_⟩
    obtain ⟨vs, ⟨j, e, j1, j2, ev⟩, hH⟩ := qt z'.1 (List.mem_of_getElem? i1)
    have eij : i = j := (List.getElem?_inj (List.getElem?_eq_some_iff.mp i1).1 nd).mp (i1.trans j1.symm)
    subst eij
    have ee : e = z'.2 := Option.some.inj (j2.symm.trans i2)
    rw [ev, ee] at hH
    exact hH
end
end WkI
set_option Elab.async false
set_option linter.all false
set_option maxRecDepth 100000
set_option maxHeartbeats 4000000
/-! The program's own: the words of a table, and how a beginning goes on. -/
namespace LB
open PySem L2 Wk
open Bg (Bg Wo)
theorem _root_.L2.Same.tp {K : PySem.W.Frag} {H H' : Hp} {a : Addr} {xs : List V} (e : Same H H') (h : SqT K H a xs) : SqT K H' a xs := by
  rcases h with (h | ⟨o, h⟩) | h
  · exact .inl (.inl (e _ _ h))
  · exact .inl (.inr ⟨o, e _ _ h⟩)
  · exact .inr h
theorem same_new {H : Hp} {a : Addr} {x : HO} (n : H a = none) : Same H (upd H a x) := fun b o e => by
  rw [upd_ne (ne_of_none e n)]
  exact e
/-! ### the words of a table -/
def enumW (f : Nat → Wo) (l : List Str) : List (Str × Wo) := l.zipIdx.map fun e => (e.1, f e.2)
theorem enumW_snoc (f : Nat → Wo) {l : List Str} {i : Nat} {x : Str} (h : l[i]? = some x) : enumW f (l.take (i + 1)) = enumW f (l.take i) ++ [(x, f i)] := by
  have il := (List.getElem?_eq_some_iff.mp h).1
  unfold enumW
  rw [List.take_add_one, h, List.zipIdx_append, List.map_append]
  have e : (l.take i).length = i := by
    rw [List.length_take]
    omega
  rw [e]
  show _ ++ [(x, f (0 + i))] = _
  rw [Nat.zero_add]
theorem enumW_fst (f : Nat → Wo) (l : List Str) : (enumW f l).map (·.1) = l := by
  unfold enumW
  rw [List.map_map]
  exact List.zipIdx_map_fst 0 l
theorem enumW_snd (f : Nat → Wo) (l : List Str) : (enumW f l).map (·.2) = (List.range l.length).map f := by
  unfold enumW
  rw [List.map_map, show ((fun e : Str × Wo => e.2) ∘ fun e : Str × Nat => (e.1, f e.2)) = f ∘ Prod.snd from rfl, ← List.map_map, List.zipIdx_map_snd, List.range_eq_range']
theorem enumW_len (f : Nat → Wo) (l : List Str) : (enumW f l).length = l.length := by
  unfold enumW
  rw [List.length_map, List.length_zipIdx]
def voc (ones tens : List Str) (hun : Str) (scales : List Str) : List (Str × Wo) :=
  (hun, .hun) :: (enumW (fun i => .low (i : Int)) ones ++ (enumW (fun i => .low (10 * ((i : Int) + 2))) tens ++ enumW .sc scales))
def entW (e : Str × Wo) : Key × V := (Sum.inr e.1, V.int e.2.val)
def entI (e : Str × Wo) : Str × Int := (e.1, e.2.val)
theorem entW_is (l : List (Str × Wo)) : l.map entW = (l.map entI).map WkI.entS := by
  rw [List.map_map]
  rfl
theorem voc_fst (ones tens : List Str) (hun : Str) (scales : List Str) : (voc ones tens hun scales).map (·.1) = hun :: (ones ++ (tens ++ scales)) := by
  unfold voc
  rw [List.map_cons, List.map_append, List.map_append, enumW_fst, enumW_fst, enumW_fst]
theorem voc_snd {ones tens : List Str} {hun : Str} {scales : List Str} (l1 : ones.length = 20) (l2 : tens.length = 8) : (voc ones tens hun scales).map (·.2) = Bg.all scales.length := by
  unfold voc
  rw [List.map_cons, List.map_append, List.map_append, enumW_snd, enumW_snd, enumW_snd, l1, l2]
  rfl
theorem voc_len (ones tens : List Str) (hun : Str) (scales : List Str) : (voc ones tens hun scales).length = 1 + (ones.length + (tens.length + scales.length)) := by
  rw [← List.length_map (·.1), voc_fst, List.length_cons, List.length_append, List.length_append]
  omega
theorem perm_hun (ones tens : List Str) (hun : Str) (scales : List Str) : (hun :: (ones ++ (tens ++ scales))).Perm (ones ++ (tens ++ hun :: scales)) := by
  have a : (hun :: (tens ++ scales)).Perm (tens ++ hun :: scales) := List.perm_middle.symm
  have b : (hun :: (ones ++ (tens ++ scales))).Perm (ones ++ (hun :: (tens ++ scales))) := List.perm_middle.symm
  exact b.trans (List.Perm.append_left ones a)
theorem val_no {l : List (Str × Wo)} {x : Str} (h : ¬ x ∈ l.map (·.1)) : valV (l.map entW) (Sum.inr x : Key) = none := by
  unfold valV
  rw [List.find?_eq_none.mpr]
  · rfl
  · intro p hp
    obtain ⟨y, hy, rfl⟩ := List.mem_map.mp hp
    simp only [decide_eq_true_eq]
    intro e
    exact h (List.mem_map.mpr ⟨y, hy, Sum.inr.inj e⟩)
/-- one word more in the dict -/
theorem put_word {l : List (Str × Wo)} {x : Str} {o : Wo} (h : ¬ x ∈ l.map (·.1)) : putK (l.map entW) (Sum.inr x : Key) (.int o.val) = (l ++ [(x, o)]).map entW := by
  rw [putK_new _ (val_no h), List.map_append]
  rfl
def spWorths : Sp := fun vs H Q _ => ∃ (t o te sc : Addr) (ones tens : List Str) (hun : Str) (scales : List Str), vs = [.ref t] ∧ TabAt H t ones tens hun scales o te sc ∧ ones.length ≤ 100 ∧ tens.length ≤ 100 ∧ scales.length ≤ 500 ∧
  (ones ++ (tens ++ hun :: scales)).Nodup ∧ ∀ p H', H p = none → Same H H' → H' p = some (.dK ((voc ones tens hun scales).map entW)) → Q (.ref p) H'
section
variable {P : Program} {w : World} {K : PySem.W.Frag} {mg : Str → Option Value} {base : Heap}
theorem scWorths : FnScope ["table", "ones", "tens", "hundred", "scales", "found", "digit", "word", "at", "worth"] ["table"] (defScope sWorths) := ⟨rfl, rfl, rfl, by decide +kernel, rfl, by decide +kernel, by decide +kernel⟩
theorem str_at {l : List Str} {i : Nat} {y : V} (h : (l.map V.str)[i]? = some y) : ∃ z, l[i]? = some z ∧ y = .str z := by
  rw [List.getElem?_map] at h
  cases q : l[i]? with
  | none =>
    rw [q] at h
    cases h
  | some z =>
    rw [q] at h
    exact ⟨z, rfl, (Option.some.inj h).symm⟩
theorem ok_worths {f : Addr} {fd : FuncData} (F : Fun K "worths" "worths" sWorths f fd) (mE : mg "enumerate" = none) : FnOk P w K mg base CX0 1 f fd ["table"] spWorths := by
  refine F.ok scWorths (fun vs H Q E h => ?_) (fun cdv A outer s H vs Q E hr h => ?_)
  · obtain ⟨t, o, te, sc, ones, tens, hun, scales, rfl, _⟩ := h
    rfl
  · obtain ⟨t, o, te, sc, ones, tens, hun, scales, rfl, TA, l1, l2, l3, nd, k⟩ := h
    have hu := hu_of hr
    refine ⟨_, pss_cons (ps_asg (pv 0) (pg_tup (by rfl) (pgs_cons (pg_name (i := 1) scWorths.nd rfl (.inl rfl)) (pgs_cons (pg_name (i := 2) scWorths.nd rfl (.inl rfl)) (pgs_cons (pg_name (i := 3) scWorths.nd rfl (.inl rfl)) (pgs_cons (pg_name (i := 4) scWorths.nd rfl (.inl rfl)) pgs_nil))))))
      (pss_cons (ps_set (i := 5) scWorths.nd rfl (.inl rfl) (pe_disp (pps_cons (pv 3) pe_int pps_nil) (by rfl) (by rfl) (fun z => by cases z) (by decide)))
      (pss_mid (ps_for PassesOwn.never rfl (pi_enum rfl mE (pa_cons (pv 1) pa_nil)) (pg_tup (by rfl) (pgs_cons (pg_name (i := 6) scWorths.nd rfl (.inl rfl)) (pgs_cons (pg_name (i := 7) scWorths.nd rfl (.inl rfl)) pgs_nil)))
        (pss_one (ps_dput hu (pv 5) (pv 7) (pv 6) rfl)))
      (pss_mid (ps_for PassesOwn.never rfl (pi_enum rfl mE (pa_cons (pv 2) pa_nil)) (pg_tup (by rfl) (pgs_cons (pg_name (i := 8) scWorths.nd rfl (.inl rfl)) (pgs_cons (pg_name (i := 7) scWorths.nd rfl (.inl rfl)) pgs_nil)))
        (pss_one (ps_dput hu (pv 5) (pv 7) (pe_op op_mul pe_int (pe_op op_add (pv 8) pe_int)) rfl)))
      (pss_cons (ps_set (i := 9) scWorths.nd rfl (.inl rfl) pe_int)
      (pss_cons (ps_for PassesOwn.never rfl (pi_list (pv 4)) (pg_name (i := 7) scWorths.nd rfl (.inl rfl))
        (pss_cons (ps_set (i := 9) scWorths.nd rfl (.inl rfl) (pe_op op_mul (pv 9) pe_int))
        (pss_one (ps_dput hu (pv 5) (pv 7) (pv 9) rfl))))
      (pss_one (ps_ret (pv 5)))))))), ?_⟩
    refine ⟨_, rfl, t, _, rfl, SqT.of TA.tup, rfl, _, _, rfl, _, _, rfl, _, _, rfl, _, _, rfl, rfl, ?_⟩
    intro p np
    have s0 : Same H (upd H p (.dK [])) := same_new np
    refine ⟨_, rfl, upd_same, [(Sum.inr hun, V.int 100)], rfl, (by show 1 ≤ 15; decide), ?_⟩
    rw [show upd (upd H p (.dK [])) p (.dK (mergeK [] [((Sum.inr hun : Key), V.int 100)])) = upd H p (.dK (([(hun, .hun)] : List (Str × Wo)).map entW)) by
      funext b
      by_cases e : b = p
      · rw [e, upd_same, upd_same]
        rfl
      · rw [upd_ne e, upd_ne e, upd_ne e]]
    have ndp : (hun :: (ones ++ (tens ++ scales))).Nodup := (perm_hun ones tens hun scales).nodup_iff.mpr nd
    have big : 1000 ≤ sizeLine := by decide
    have L1 : ∀ i, (((hun, Wo.hun) :: enumW (fun i => .low (i : Int)) (ones.take i)).map (·.1)) = hun :: ones.take i := fun i => by rw [List.map_cons, enumW_fst]
    refine ⟨fun τ G => ∃ a b : Option V, τ = [some (.ref t), some (.ref o), some (.ref te), some (.str hun), some (.ref sc), some (.ref p), a, b, none, none] ∧ Same H G ∧ G p = some (.dK (((hun, Wo.hun) :: enumW (fun i => .low (i : Int)) ones).map entW)), ?_, ?_⟩
    · refine ⟨_, rfl, o, _, rfl, SqL.of ((same_new np) _ _ TA.lo), ?_⟩
      refine for_it (walk_enum (K := K) (a := o) (xs := ones.map V.str)) (fun i τ G => ∃ a b : Option V, τ = [some (.ref t), some (.ref o), some (.ref te), some (.str hun), some (.ref sc), some (.ref p), a, b, none, none] ∧ Same H G ∧ G p = some (.dK (((hun, Wo.hun) :: enumW (fun i => .low (i : Int)) (ones.take i)).map entW))) ?_ ?_ ?_ ?_
      · exact ⟨none, none, rfl, same_new np, upd_same⟩
      · rintro i σ G _ ⟨_, _, _, s1, _⟩
        exact SqL.of (s1 _ _ TA.lo)
      · rintro i x σ G H' hi ⟨a, b, rfl, s1, hp⟩ ⟨T, y1, y2, rfl, nT, rfl, e1, e2⟩
        cases e1
        obtain ⟨z, hz, rfl⟩ := str_at e2
        have il := (List.getElem?_eq_some_iff.mp hz).1
        refine ⟨T, _, rfl, SqT.of upd_same, rfl, _, _, rfl, _, _, rfl, rfl, ?_⟩
        have pT : p ≠ T := ne_of_none hp nT
        have no : ¬ z ∈ ((hun, Wo.hun) :: enumW (fun i => .low (i : Int)) (ones.take i)).map (·.1) := by
          rw [L1]
          have n2 : (hun :: ones).Nodup := by
            have q := (List.nodup_append (l₁ := hun :: ones) (l₂ := tens ++ scales)).mp ndp
            exact q.1
          intro hm
          rcases List.mem_cons.mp hm with e | hm
          · exact (List.nodup_cons.mp n2).1 (e ▸ List.mem_of_getElem? hz)
          · exact not_before (List.nodup_cons.mp n2).2 hz hm
        refine ⟨_, rfl, _, rfl, _, rfl, p, _, rfl, DPut.k (k := (Sum.inr z : Key)) (v := .int (i : Int)) (by rw [upd_ne pT]; exact hp) ?_, ?_⟩
        · rw [List.length_map, List.length_cons, enumW_len, List.length_take]
          omega
        · refine ⟨_, _, rfl, fun q u e => ?_, ?_⟩
          · rw [upd_ne (ne_of_none e np), upd_ne (ne_of_none (s1 _ _ e) nT)]
            exact s1 _ _ e
          · rw [upd_same]
            have e := put_word (o := .low (i : Int)) no
            rw [show V.int (Wo.val (.low (i : Int))) = V.int (i : Int) from rfl] at e
            rw [e, enumW_snoc _ hz]
            rfl
      · rintro σ G ⟨a, b, rfl, s1, hp⟩
        rw [List.length_map, List.take_length] at hp
        exact ⟨a, b, rfl, s1, hp⟩
    rintro τ G ⟨a1, b1, rfl, s1, hp⟩
    have L2 : ∀ i, (((hun, Wo.hun) :: (enumW (fun i => .low (i : Int)) ones ++ enumW (fun i => .low (10 * ((i : Int) + 2))) (tens.take i))).map (·.1)) = hun :: (ones ++ tens.take i) := fun i => by rw [List.map_cons, List.map_append, enumW_fst, enumW_fst]
    refine ⟨fun τ G => ∃ a b c : Option V, τ = [some (.ref t), some (.ref o), some (.ref te), some (.str hun), some (.ref sc), some (.ref p), a, b, c, none] ∧ Same H G ∧ G p = some (.dK (((hun, Wo.hun) :: (enumW (fun i => .low (i : Int)) ones ++ enumW (fun i => .low (10 * ((i : Int) + 2))) tens)).map entW)), ?_, ?_⟩
    · refine ⟨_, rfl, te, _, rfl, SqL.of (s1 _ _ TA.lt), ?_⟩
      refine for_it (walk_enum (K := K) (a := te) (xs := tens.map V.str)) (fun i τ G => ∃ a b c : Option V, τ = [some (.ref t), some (.ref o), some (.ref te), some (.str hun), some (.ref sc), some (.ref p), a, b, c, none] ∧ Same H G ∧ G p = some (.dK (((hun, Wo.hun) :: (enumW (fun i => .low (i : Int)) ones ++ enumW (fun i => .low (10 * ((i : Int) + 2))) (tens.take i))).map entW))) ?_ ?_ ?_ ?_
      · refine ⟨a1, b1, none, rfl, s1, ?_⟩
        rw [hp]
        simp [enumW]
      · rintro i σ G _ ⟨_, _, _, _, s2, _⟩
        exact SqL.of (s2 _ _ TA.lt)
      · rintro i x σ G H' hi ⟨a, b, c, rfl, s2, hp2⟩ ⟨T, y1, y2, rfl, nT, rfl, e1, e2⟩
        cases e1
        obtain ⟨z, hz, rfl⟩ := str_at e2
        have il := (List.getElem?_eq_some_iff.mp hz).1
        refine ⟨T, _, rfl, SqT.of upd_same, rfl, _, _, rfl, _, _, rfl, rfl, ?_⟩
        have pT : p ≠ T := ne_of_none hp2 nT
        have no : ¬ z ∈ ((hun, Wo.hun) :: (enumW (fun i => .low (i : Int)) ones ++ enumW (fun i => .low (10 * ((i : Int) + 2))) (tens.take i))).map (·.1) := by
          rw [L2]
          have n2 : ((hun :: ones) ++ tens).Nodup := by
            have e : hun :: (ones ++ (tens ++ scales)) = ((hun :: ones) ++ tens) ++ scales := by simp
            rw [e] at ndp
            exact (List.nodup_append.mp ndp).1
          have q := List.nodup_append.mp n2
          intro hm
          rw [show hun :: (ones ++ tens.take i) = (hun :: ones) ++ tens.take i from rfl] at hm
          rcases List.mem_append.mp hm with hm | hm
          · exact q.2.2 z hm z (List.mem_of_getElem? hz) rfl
          · exact not_before q.2.1 hz hm
        refine ⟨_, rfl, _, _, rfl, rfl, _, _, rfl, rfl, .inl ⟨by decide, by decide⟩, _, rfl, _, rfl, p, _, rfl, DPut.k (k := (Sum.inr z : Key)) (v := .int (10 * ((i : Int) + 2))) (by rw [upd_ne pT]; exact hp2) ?_, ?_⟩
        · rw [List.length_map, List.length_cons, List.length_append, enumW_len, enumW_len, List.length_take]
          omega
        · refine ⟨_, _, _, rfl, fun q u e => ?_, ?_⟩
          · rw [upd_ne (ne_of_none e np), upd_ne (ne_of_none (s2 _ _ e) nT)]
            exact s2 _ _ e
          · rw [upd_same]
            have e := put_word (o := .low (10 * ((i : Int) + 2))) no
            rw [show V.int (Wo.val (.low (10 * ((i : Int) + 2)))) = V.int (10 * ((i : Int) + 2)) from rfl] at e
            rw [e, enumW_snoc _ hz]
            simp
      · rintro σ G ⟨a, b, c, rfl, s2, hp2⟩
        rw [List.length_map, List.take_length] at hp2
        exact ⟨a, b, c, rfl, s2, hp2⟩
    rintro τ G2 ⟨a2, b2, c2, rfl, s2, hp2⟩
    refine ⟨_, rfl, sc, rfl, ⟨_, SqL.of (s2 _ _ TA.ls)⟩, ?_⟩
    refine for_list (K := K) (a := sc) (xs := scales.map V.str) (fun i τ G => ∃ b : Option V, τ = [some (.ref t), some (.ref o), some (.ref te), some (.str hun), some (.ref sc), some (.ref p), a2, b, c2, some (.int (Bg.W i))] ∧ Same H G ∧
      G p = some (.dK (((hun, Wo.hun) :: (enumW (fun i => .low (i : Int)) ones ++ (enumW (fun i => .low (10 * ((i : Int) + 2))) tens ++ enumW .sc (scales.take i)))).map entW))) ?_ ?_ ?_ ?_
    · refine ⟨b2, rfl, s2, ?_⟩
      rw [hp2]
      simp [enumW]
    · rintro i σ G _ ⟨_, _, s3, _⟩
      exact SqL.of (s3 _ _ TA.ls)
    · rintro i y σ G hi ⟨b, rfl, s3, hp3⟩
      obtain ⟨z, hz, rfl⟩ := str_at hi
      have il := (List.getElem?_eq_some_iff.mp hz).1
      have no : ¬ z ∈ ((hun, Wo.hun) :: (enumW (fun i => .low (i : Int)) ones ++ (enumW (fun i => .low (10 * ((i : Int) + 2))) tens ++ enumW .sc (scales.take i)))).map (·.1) := by
        rw [List.map_cons, List.map_append, List.map_append, enumW_fst, enumW_fst, enumW_fst]
        have e : hun :: (ones ++ (tens ++ scales)) = ((hun :: ones) ++ tens) ++ scales := by simp
        rw [e] at ndp
        have q := List.nodup_append.mp ndp
        intro hm
        rw [show hun :: (ones ++ (tens ++ scales.take i)) = ((hun :: ones) ++ tens) ++ scales.take i by simp] at hm
        rcases List.mem_append.mp hm with hm | hm
        · exact q.2.2 z hm z (List.mem_of_getElem? hz) rfl
        · exact not_before q.2.1 hz hm
      refine ⟨_, rfl, _, _, rfl, rfl, .inr ⟨by decide, by decide⟩, _, rfl, _, rfl, _, rfl, p, _, rfl, DPut.k (k := (Sum.inr z : Key)) (v := .int (Bg.W i * 1000)) hp3 ?_, ?_⟩
      · rw [List.length_map, List.length_cons, List.length_append, List.length_append, enumW_len, enumW_len, enumW_len, List.length_take]
        omega
      · refine ⟨some (.str z), ?_, fun q u e => ?_, ?_⟩
        · rw [Bg.W_succ, Int.mul_comm]
          rfl
        · rw [upd_ne (ne_of_none e np)]
          exact s3 _ _ e
        · rw [upd_same]
          have e := put_word (o := .sc i) no
          rw [show V.int (Wo.val (.sc i)) = V.int (Bg.W i * 1000) by show V.int (Bg.W (i + 1)) = _; rw [Bg.W_succ, Int.mul_comm]] at e
          rw [e, enumW_snoc _ hz]
          simp
    · rintro σ G ⟨b, rfl, s3, hp3⟩
      rw [List.length_map, List.take_length] at hp3
      exact ⟨_, rfl, k p G np s3 hp3⟩
end
end LB
set_option Elab.async false
set_option linter.all false
set_option maxRecDepth 100000
set_option maxHeartbeats 4000000
/-! set(list of texts) and sorted(set of texts), of any number below the scan's bound. -/
namespace Wk
open PySem PySem.Spec PyProof.Rows L2 PySem.Froz

/-- the payload holds the texts l, each once; its table rises and can be walked -/
structure TxR (P : Program) (w : World) (D : SD) (l : List Str) : Prop where
  ok : TxOk P w D l
  nd : l.Nodup
  ris : Ris D.2.2.place.toList
  led : w.params.followText "set-order" = true ∨ D.2.2.led = true

theorem tailRis {ep : Nat} {es1 : Array (Int × Value)} {t2 : SetTable} {b : Bool} (r : Ris t2.place.toList) : Ris (tailTx ep es1 t2 b).2.2.place.toList := by
  unfold tailTx
  split
  · exact relayAll_ris t2 es1 _
  · exact r
theorem tailLed {ep : Nat} {es1 : Array (Int × Value)} {t2 : SetTable} {b : Bool} : (tailTx ep es1 t2 b).2.2.led = t2.led := by
  unfold tailTx
  split
  · exact relayAll_led t2 es1 _
  · rfl
theorem addRis {w : World} {D : SD} {h : Int} {v : Value} (r : Ris D.2.2.place.toList) : Ris (addTx h v D).2.2.place.toList := by
  unfold addTx
  refine tailRis ?_
  have q := layNew_ris D.2.2 D.1 h v r
  split
  · exact q
  · exact q
theorem addLed {D : SD} {h : Int} {v : Value} : (addTx h v D).2.2.led = D.2.2.led := by
  unfold addTx
  refine tailLed.trans ?_
  have q := layNew_led D.2.2 D.1 h v
  split
  · exact q
  · exact q
theorem TxR.more {P : Program} {w : World} {D : SD} {l : List Str} (R : TxR P w D l) {k : Str} (u : Tok) (hk : k ∉ l) : TxR P w (addTx (hashStr w k) (.str k u) D) (k :: l) :=
  ⟨add_ok u R.ok, List.nodup_cons.mpr ⟨hk, R.nd⟩, addRis (w := w) R.ris, R.led.imp id fun e => addLed.trans e⟩
/-- an empty set's payload -/
def tx0 (w : World) : SD := (#[], 0, .fresh 0 0 (!w.params.followText "set-order"))
theorem TxR.zero (P : Program) (w : World) : TxR P w (tx0 w) [] :=
  ⟨TxOk.nil (by rfl), List.nodup_nil, List.Pairwise.nil, by
    show _ ∨ (!w.params.followText "set-order") = true
    cases w.params.followText "set-order"
    · exact .inr rfl
    · exact .inl rfl⟩

section
variable {P : Program} {w : World} {A : Around} {E : Value → Shared → Prop} {s : Shared}
/-- a text goes in, whether it is there or not -/
theorem addTxt {a : Addr} {D : SD} {l : List Str} {k : Str} {u : Tok} {Q : Bool → Shared → Prop} (ho : s.heap.get? a = some (sObj "set" D)) (R : TxR P w D l) (room : l.length + 1 < scanBound)
    (h : ∀ (r : Bool) (h' : Heap) (D' : SD) (l' : List Str), Heap.SameBut a s.heap h' → h'.get? a = some (sObj "set" D') → TxR P w D' l' → (∀ x, x ∈ l' ↔ x ∈ l ∨ x = k) → l'.length ≤ l.length + 1 → Q r { s with heap := h' }) :
    wpAny (model P w) A (setAddHashed a (.str k u) (hashStr w k)) Q E s := by
  by_cases hk : k ∈ l
  · have keep := h false s.heap D l (Heap.SameBut.refl a s.heap) ho R (fun x => ⟨.inl, fun z => z.elim id fun e => e ▸ hk⟩) (by omega)
    obtain ⟨es, ep, t⟩ := D
    have F := R.ok
    have dat : (sObj "set" (es, ep, t)).data = .set es ep t := rfl
    have fit : t.fits es.size = true := F.fit
    have els : ElemsOf (PySem.strKind P w) es.toList := F.el
    have cnt : es.size = l.length := F.sz
    obtain ⟨e, he, pe⟩ := (F.mem k).mp hk
    unfold setAddHashed setAddHashedIn
    refine wpAny_holding (wpAny_bind (wpAny_setState_of ho dat fit ?_))
    dsimp only
    rw [byScan_of rfl (by omega) els]
    simp only [↓reduceIte]
    unfold setAddByScan
    refine wpAny_bind (wpAny_bind (wpAny_rule ?_))
    refine wpAny_bind (wpAny_setScan_of (knd := PySem.strKind P w) (k := k) (is_str k u) ho dat fit els ?_)
    cases hf : List.findIdx? (fun e => (PySem.strKind P w).is k e.2) es.toList with
    | none =>
      have q := List.findIdx?_eq_none_iff.mp hf e he
      rw [pe] at q
      cases q
    | some j => exact wpAny_pure (wpAny_pure keep)
  · refine add_x ho R.ok hk room ?_
    have at' : (s.heap.update a (fun _ => sObj "set" (addTx (hashStr w k) (.str k u) D))).get? a = some (sObj "set" (addTx (hashStr w k) (.str k u) D)) := get_upd _ ho rfl
    exact h true _ _ (k :: l) (Heap.SameBut.update s.heap a _) at' (R.more u hk) (fun x => by rw [List.mem_cons]; exact Or.comm) (Nat.le_refl _)

/-- the loop of an update by texts -/
theorem loopTxt {I : Addr} {fp wr : List Addr} {G : Array GenState → Array GenState → Prop} {n : Nat} {Pv : Nat → Value → Prop} {St : Nat → Shared → Prop} {R : Result → Shared → Prop}
    (W : WalksS P w A.in1 I fp wr G n Pv St) (b : Addr) (hb : b ∉ fp) (xs : List Str) (hn : n = xs.length) (room : xs.length + 1 < scanBound) (hv : ∀ i v, Pv i v → ∃ x t, xs[i]? = some x ∧ v = .str x t) :
    ∀ (k i : Nat) (s : Shared), n - i = k → i ≤ n → St i s → (∃ D l, s.heap.get? b = some (sObj "set" D) ∧ TxR P w D l ∧ (∀ x, x ∈ l ↔ x ∈ xs.take i) ∧ l.length ≤ i) →
      (∀ s' D l, Moved (b :: wr) G s s' → s'.heap.get? b = some (sObj "set" D) → TxR P w D l → (∀ x, x ∈ l ↔ x ∈ xs) → l.length ≤ n → R (.ok (.ret .none)) s') →
      codeAny (model P w) A (.builtin "set.update.loop" ⟨[.ref b, .ref I], []⟩) R s := by
  have hbw : b ∉ wr := fun z => hb (W.sub _ z)
  have wider : ∀ c ∈ wr, c ∈ b :: wr := fun c hc => List.mem_cons_of_mem _ hc
  intro k
  induction k with
  | zero =>
    intro i s hk hi hst ⟨D, l, ho, T, hl, hc⟩ hR
    obtain rfl : i = n := by omega
    refine codeAny_builtin F.entry_set_update_loop ?_
    rw [Around.under_plainId F.plain_set_update_loop _]
    show wpAny _ A.in1 (pyNext (.ref I) >>= _) _ _ s
    refine wpAny_bind (W.done s _ _ hst fun s1 hm => ?_)
    show wpAny _ A.in1 (ret Value.none) _ _ s1
    rw [List.take_of_length_le (by omega)] at hl
    exact wpAny_pure (hR s1 D l (hm.mono wider) (hm.heap b _ hbw ho) T hl hc)
  | succ k ih =>
    intro i s hk hi hst ⟨D, l, ho, T, hl, hc⟩ hR
    have hlt : i < n := by omega
    refine codeAny_builtin F.entry_set_update_loop ?_
    rw [Around.under_plainId F.plain_set_update_loop _]
    show wpAny _ A.in1 (pyNext (.ref I) >>= _) _ _ s
    refine wpAny_bind (W.item i s _ _ hlt hst fun v s1 hP hst1 hm => ?_)
    obtain ⟨x, t, hx, rfl⟩ := hv i v hP
    show wpAny _ A.in1 (holding [Value.str x t] (setAdd b (.str x t)) >>= _) _ _ s1
    refine wpAny_bind (wpAny_holding ?_)
    unfold setAdd
    refine wpAny_holding (wpAny_bind ((PySem.strKind P w).pyHash (k := x) (is_str x t) ?_))
    refine addTxt (s := { s1 with toks := s1.toks + 1 }) (hm.heap b _ hbw ho) T (by omega) fun r h2 D2 l2 sb ho2 T2 hm2 hc2 => ?_
    have hl2 : ∀ y, y ∈ l2 ↔ y ∈ xs.take (i + 1) := fun y => by
      rw [hm2 y, hl y, List.take_add_one, hx]
      simp [List.mem_append]
    refine wpAny_pure ⟨plainId_quiet F.plain_set_update_loop _, ih (i + 1) _ (by omega) hlt (W.frame _ s1 _ _ hst1 (Nat.le_succ _) fun c hcf o e => ?_) ⟨D2, l2, ho2, T2, hl2, by omega⟩ fun s3 D3 l3 hm3 ho3 T3 hl3 hc3 => ?_⟩
    · rw [sb.2 c (fun z : c = b => hb (z ▸ hcf))]; exact e
    · refine hR s3 D3 l3 (Moved.trans W.gtrans ((hm.mono wider).then_heap (Nat.le_succ _) fun c o hcn e => ?_) hm3) ho3 T3 hl3 hc3
      rw [sb.2 c (fun z : c = b => hcn (z ▸ List.mem_cons_self))]; exact e
end
end Wk
set_option Elab.async false
set_option linter.all false
set_option maxRecDepth 100000
set_option maxHeartbeats 4000000
/-! the calls set(xs) and sorted(set) for texts -/
namespace Wk
open PySem PySem.Spec PyProof.Rows L2 PySem.Froz
section
variable {P : Program} {w : World} {A : Around} {E : Value → Shared → Prop} {s : Shared}
/-- what `set` makes first -/
def bare0 (w : World) : Obj := { cls := .type "set", dict := none, data := .set #[] 0 (.fresh 0 0 (!w.params.followText "set-order")) }
theorem setOfTxt {l : Addr} {its : Array Value} (xs : List Str) {Q : Value → Shared → Prop} (cold : A.handled = none) (hl : s.heap.IsList l its) (are : StrsAre its.toList xs) (room : xs.length + 1 < scanBound)
    (h : ∀ (h' : Heap) (tk : Nat) (D : SD) (l' : List Str), h'.get? s.heap.objs.size = some (sObj "set" D) → TxR P w D l' → (∀ x, x ∈ l' ↔ x ∈ xs) → l'.length ≤ xs.length →
      (∀ b o, s.heap.get? b = some o → h'.get? b = some o) → Q (.ref s.heap.objs.size) { s with heap := h', toks := tk }) :
    wpAny (model P w) A (call (.type "set") [.ref l]) Q E s := by
  have many : its.size = xs.length := by
    have q := StrsAre.len_eq are
    rw [Array.length_toList] at q
    exact q
  obtain ⟨c, tl, hmro⟩ := F.called_set.mro
  have made := F.called_set.made
  have sub := F.called_set.sub
  refine wpAny_call (codeAny_of_tree ?_)
  show wpAny _ _ (callAny (.type "set") _) _ _ _
  refine wpAny_pure ⟨Code.quiet_builtin _ (by decide +kernel), codeAny_builtin F.entry_type_call ?_⟩
  rw [Around.under_plain (weight_type_call_type "set" [.ref l] []) rfl]
  have t1 := F.called_set.notType
  have t2 := F.called_set.canCreate
  have t3 := F.typeCall_set_1 (.ref l)
  repeat (any_goals (first | assumption | wp_step))
  refine codeAny_mono (code_set_led1 (.ref l) (E := E) (Q₁ := fun z s₁ => z = .ref s.heap.objs.size ∧ s₁ = { s with heap := s.heap.push (bare0 w) }) ⟨rfl, rfl⟩) fun r s₁ hr => ?_
  cases r with
  | error e => exact hr
  | ok fl =>
    cases fl with
    | ret z =>
      obtain ⟨rfl, rfl⟩ := hr
      have at0 : (s.heap.push (bare0 w)).get? s.heap.objs.size = some (bare0 w) := Heap.get?_push_size _ rfl
      have ty : Shared.TypeIs { s with heap := s.heap.push (bare0 w) } (.ref s.heap.objs.size) "set" := ⟨_, at0, rfl⟩
      have i1 := F.called_set.init.lookup
      have i2 := F.called_set.init.bind (.ref s.heap.objs.size)
      repeat (any_goals (first | assumption | wp_step))
      refine codeAny_mono (codeAny_call_builtin (R := wants (fun r s₂ => r = .none ∧ ∃ h' tk D l', s₂ = { s with heap := h', toks := tk } ∧ h'.get? s.heap.objs.size = some (sObj "set" D) ∧ TxR P w D l' ∧ (∀ x, x ∈ l' ↔ x ∈ xs) ∧ l'.length ≤ xs.length ∧
          (∀ b o, s.heap.get? b = some o → h'.get? b = some o)) E) F.called_set.init.plain F.entry_set_init (check_set_init_1 ty ?_)) fun r₂ s₂ hr₂ => ?_
      · obtain ⟨ol, hol, hcl, nl, hdl⟩ := hl
        obtain ⟨oc, od, oD, os⟩ := ol
        simp only at hcl hdl
        subst hcl; subst hdl
        have hol' : (s.heap.push (bare0 w)).get? l = some { cls := .type "list", dict := od, data := .seq its nl, slots := os } := Heap.get?_push_of_some _ hol
        have u1 := F.sub_list_set
        have u2 := F.sub_list_frozenset
        have u3 : (Value.type "list" == Value.type "dict") = false := by decide
        have isl : (s.heap.push (bare0 w)).IsList l its := ⟨_, hol', rfl, nl, rfl⟩
        unfold Builtin.«set.__init__» noKeywords Builtin.Frozenset.updateFrom
        generalize hPI : pyIter = PI
        wp_walk
        subst hPI
        refine wpAny_pyIter_list isl ?_
        refine wpAny_bind (wpAny_runValue ?_)
        have lless : l < s.heap.objs.size := Heap.lt_size hol
        have cold3 : A.in1.in1.in1.handled = none := by simp [cold]
        have sz : (s.heap.push (bare0 w)).objs.size = s.heap.objs.size + 1 := Heap.size_push ..
        have neI : l ≠ (s.heap.push (bare0 w)).objs.size := by rw [sz]; exact Nat.ne_of_lt (Nat.lt_succ_of_lt lless)
        have apart : s.heap.objs.size ∉ [(s.heap.push (bare0 w)).objs.size, l] := by
          rw [sz]
          simp only [List.mem_cons, List.not_mem_nil, or_false, not_or]
          exact And.intro (Nat.ne_of_lt (Nat.lt_succ_self _)) (Nat.ne_of_gt lless)
        have each : ∀ (i : Nat) (v : Value), its[i]? = some v → ∃ x t, xs[i]? = some x ∧ v = .str x t := fun i v hv => by
          have hi : i < xs.length := by rw [← many]; exact (Array.getElem?_eq_some_iff.mp hv).1
          obtain ⟨t, e⟩ := SS.strs_at are i v (by rw [Array.getElem?_toList]; exact hv)
          refine ⟨xs[i], t, List.getElem?_eq_getElem hi, ?_⟩
          rw [e, List.getD_eq_getElem?_getD, List.getElem?_eq_getElem hi] <;> rfl
        refine loopTxt ((Walks.list cold3 _ l neI its).toS) s.heap.objs.size apart xs many room each (its.size - 0) 0 _ (by omega) (Nat.zero_le _) ⟨⟨_, Heap.get?_push_size _ rfl, rfl, rfl⟩, (isl.push _)⟩ ?first ?last
        case first =>
          exact ⟨tx0 w, [], Heap.get?_push_of_some _ at0, TxR.zero P w, fun x => by simp, Nat.le_refl _⟩
        case last =>
          intro s' D l' hm ho T hl' hc'
          obtain ⟨h', g', d', tk', os'⟩ := s'
          have eg : g' = s.gens := hm.gens
          have ed : d' = s.drawn := hm.drawn
          have eo : os' = s.os := hm.os
          subst eg; subst ed; subst eo
          show wpAny _ _ _ _ _ _
          refine wpAny_pure ?_
          show wpAny _ _ (ret Value.none) _ _ _
          rw [many] at hc'
          refine wpAny_pure ⟨rfl, h', tk', D, l', rfl, ho, T, hl', hc', fun b o e => ?_⟩
          have b0 : b < s.heap.objs.size := Heap.lt_size e
          refine hm.heap b o ?_ (Heap.get?_push_of_some _ (Heap.get?_push_of_some _ e))
          simp only [List.mem_cons, List.not_mem_nil, or_false, not_or]
          exact ⟨Nat.ne_of_lt b0, by rw [sz]; exact Nat.ne_of_lt (Nat.lt_succ_of_lt b0)⟩
      · cases r₂ with
        | error e => exact hr₂
        | ok fl₂ =>
          cases fl₂ with
          | ret r =>
            obtain ⟨rfl, h', tk, D, l', rfl, ho, T, hl', hc', old⟩ := hr₂
            repeat (any_goals (first | assumption | wp_step))
            exact h _ _ _ _ ho T hl' hc' old
          | _ => exact hr₂.elim
    | _ => exact hr.elim
end
end Wk
set_option Elab.async false
set_option linter.all false
set_option maxRecDepth 100000
set_option maxHeartbeats 4000000
/-! sorted(set of texts), and both as rules -/
namespace Wk
open PySem PySem.Spec PyProof.Rows L2 PySem.Froz
theorem perm_of_fill {α : Type} [DecidableEq α] : ∀ (l m : List α), l.Nodup → (∀ x ∈ l, x ∈ m) → m.length ≤ l.length → m.Perm l
  | [], m, _, _, h => by
    have e : m = [] := List.length_eq_zero_iff.mp (Nat.le_zero.mp h)
    rw [e]
  | x :: l, m, d, s, h => by
    obtain ⟨d1, d2⟩ := List.nodup_cons.mp d
    have hx : x ∈ m := s x List.mem_cons_self
    have p := List.perm_cons_erase hx
    refine p.trans (List.Perm.cons x (perm_of_fill l (m.erase x) d2 (fun y hy => ?_) ?_))
    · have ne : y ≠ x := fun e => d1 (e ▸ hy)
      exact (List.mem_erase_of_ne ne).mpr (s y (List.mem_cons_of_mem _ hy))
    · have := p.length_eq
      simp only [List.length_cons] at this h
      omega
theorem isStr_eq {x y : Str} {t : Tok} (z : Value.isStrOf x (.str y t) = true) : y = x := by
  simp only [Value.isStrOf] at z
  first | exact eq_of_beq z | exact (eq_of_beq z).symm | exact of_decide_eq_true z | exact (of_decide_eq_true z).symm
section
variable {P : Program} {w : World} {A : Around} {E : Value → Shared → Prop} {s : Shared}
theorem txt_of {D : SD} {l : List Str} (T : TxR P w D l) : ∀ v ∈ D.1.toList.map (·.2), ∃ x t, v = Value.str x t ∧ x ∈ l := fun v hv => by
  obtain ⟨e, he, rfl⟩ := List.mem_map.mp hv
  obtain ⟨⟨k, hk, _⟩, _⟩ := T.ok.el e he
  have hm : k ∈ l := (T.ok.mem k).mpr ⟨e, he, hk⟩
  revert hk
  cases hq : e.2 with
  | str x t =>
    intro hk
    have ek : k = x := by
      have z : Value.isStrOf k (.str x t) = true := hk
      exact (isStr_eq z).symm
    exact ⟨x, t, rfl, ek ▸ hm⟩
  | _ => intro hk; cases hk
theorem sortedOfTxt {a : Addr} {D : SD} {l : List Str} {Q : Value → Shared → Prop} (cold : A.handled = none) (ho : s.heap.get? a = some (sObj "set" D)) (T : TxR P w D l) (room : l.length < scanBound)
    (h : ∀ s' p (out : Array Value) (c : Nat) (ys : List Str), (∀ b o, s.heap.get? b = some o → s'.heap.get? b = some o) → s'.gens = s.gens → s'.os = s.os → s.heap.objs.size ≤ p →
      s'.heap.get? p = some (seqObj "list" out c) → StrsAre out.toList ys → ys.Perm l → sortedS ys = true → Q (.ref p) s') :
    wpAny (model P w) A (call (.builtin "sorted") [.ref a]) Q E s := by
  have cnt : D.1.size = l.length := T.ok.sz
  refine Calls.call_function_entry kind_sorted plain_sorted entry_sorted (args_sorted1 _) ?_
  unfold Builtin.«sorted»
  refine wpAny_bind (m := checkCount "sorted" 1 1 _) (wpAny_pure ?_)
  refine wpAny_bind (collect_set (A := A.in1) cold ⟨_, ho, rfl, rfl⟩ T.ok.fit (by rw [cnt]; exact room) T.ris T.led fun s1 vs k1 z1 g1 o1 pm => ?_)
  have lvs : vs.length = l.length := by rw [pm.length_eq, List.length_map, Array.length_toList, cnt]
  have tx : ∀ v ∈ vs, ∃ x t, v = Value.str x t ∧ x ∈ l := fun v hv => txt_of T v (pm.mem_iff.mp hv)
  have are : StrsAre vs (vs.map strOf) := strsAre_map vs fun v hv => let ⟨x, t, e, _⟩ := tx v hv; ⟨x, t, e⟩
  have sub : ∀ x ∈ l, x ∈ vs.map strOf := fun x hx => by
    obtain ⟨e, he, q⟩ := (T.ok.mem x).mp hx
    have hv : e.2 ∈ vs := pm.mem_iff.mpr (List.mem_map.mpr ⟨e, he, rfl⟩)
    obtain ⟨y, t, ey, _⟩ := tx _ hv
    refine List.mem_map.mpr ⟨e.2, hv, ?_⟩
    rw [ey] at q ⊢
    have z : Value.isStrOf x (.str y t) = true := q
    show y = x
    exact isStr_eq z
  have pl : (vs.map strOf).Perm l := perm_of_fill l _ T.nd sub (by rw [List.length_map, lvs] <;> exact Nat.le_refl _)
  have line : vs.length ≤ sizeLine := by
    rw [lvs]
    exact fits_of_scanBound room
  refine wpAny_bind (wpAny_newList ?_ line)
  have at1 : (s1.heap.push (seqObj "list" vs.toArray 0)).get? s1.heap.objs.size = some (seqObj "list" vs.toArray 0) := Heap.get?_push_size _ rfl
  refine wpAny_bind (wpAny_holding (wpAny_call_entry slot_list_sort ⟨_, at1, rfl⟩ entry_list_sort (list_sort_treeKAny strKind_oneLt at1 are.keysOf (fun v₁ v₂ rest e => keyKind_strs (by rw [← e]; exact are)) line fun st' hp hs => ⟨_, rfl, ?_⟩) (args_list_sort _)))
  obtain ⟨ys, y1, y2, y3⟩ := sorted_out_str are hp hs
  obtain ⟨c, hc⟩ := sortedHeap_at (vs := vs) (out := (arrOf st').map (·.2)) at1
  refine wpAny_pure ⟨_, rfl, h _ s1.heap.objs.size _ c ys (fun b u e => ?_) g1 o1 z1 hc y1 (y2.trans pl) y3⟩
  have q := k1 b u e
  have less := Heap.lt_size q
  show (sortedHeap (s1.heap.push (seqObj "list" vs.toArray 0)) s1.heap.objs.size vs ((arrOf st').map (·.2))).get? b = some u
  rw [sortedHeap_old (Nat.ne_of_lt less) (by rw [size_push']; exact Nat.lt_succ_of_lt less)]
  exact Heap.get?_push_of_some _ q
end

/-- the set of texts at a -/
def SetTx (P : Program) (w : World) (a : Addr) (l : List Str) : HO := .ext fun h => ∃ D, h.get? a = some (sObj "set" D) ∧ TxR P w D l
section
variable {X : Cx}
/-- set(xs) of a list of texts -/
def rSetTx (K : PySem.W.Frag) (P : Program) (w : World) : List V → Hp → VK → Prop := fun vs H Q => ∃ (a : Addr) (xs : List Str), vs = [V.ref a] ∧ SqL K H a (xs.map V.str) ∧ xs.length + 1 < scanBound ∧
  ∀ (p : Addr) (l : List Str), H p = none → l.Nodup → (∀ x, x ∈ l ↔ x ∈ xs) → l.length ≤ xs.length → Q (.ref p) (upd H p (SetTx P w p l))
theorem cr_setTx (hc : X.calm = true) : CallR X (.type "set") (rSetTx X.K X.prog X.w) := by
  intro pins s σ H vs us Q I r h
  obtain ⟨a, xs, rfl, hl, room, q⟩ := h
  rw [Vals.ref1 r]
  obtain ⟨its, rv, pl, _⟩ := I.list hl
  refine setOfTxt xs (I.ok.hd hc) pl.isList (by simpa using strsAre_of rv) room fun h' tk D l ho T hm hn old => ?_
  have free : H s.heap.objs.size = none := I.hok.fresh (Nat.le_refl _)
  exact ⟨.ref _, upd H s.heap.objs.size (SetTx X.prog X.w s.heap.objs.size l), I.laid (t' := tk) old (Nat.le_refl _) ⟨⟨D, ho, T⟩, ⟨_, ho⟩, fun h1 h2 p k => let ⟨D, a, b⟩ := p; ⟨D, k _ a, b⟩⟩, rfl, q _ l free T.nd hm hn⟩
/-- sorted of a set of texts -/
def rSortTx (P : Program) (w : World) : List V → Hp → VK → Prop := fun vs H Q => ∃ (a : Addr) (l : List Str), vs = [V.ref a] ∧ H a = some (SetTx P w a l) ∧ l.length < scanBound ∧
  ∀ (ys : List Str) (p : Addr), ys.Perm l → ys.Nodup → sortedS ys = true → H p = none → Q (.ref p) (upd H p (.lst (ys.map V.str)))
theorem cr_sortTx (hc : X.calm = true) : CallR X (.builtin "sorted") (rSortTx X.prog X.w) := by
  intro pins s σ H vs us Q I r h
  obtain ⟨a, l, rfl, ha, room, q⟩ := h
  obtain ⟨D, ho, T⟩ := (I.hok a _ ha).1
  rw [Vals.ref1 r]
  refine sortedOfTxt (I.ok.hd hc) ho T room fun s' p out c ys k g o hp hg are pm so => ?_
  have len : (ys.map V.str).length ≤ sizeLine := by
    rw [List.length_map, pm.length_eq]
    exact fits_of_scanBound room
  have free : H p = none := I.hok.fresh hp
  have J : Inv X pins σ (upd H p (.lst (ys.map V.str))) { s with heap := s'.heap, gens := s'.gens, drawn := s'.drawn, toks := s'.toks } :=
    I.call (ch := []) (Un.laid k hp free) (I.hok.laid k hp ⟨len, out.toList, c, vals_of_strs are, hg⟩) (by rw [g]; exact I.bare) (fun _ z => nomatch z)
  have e : s' = { s with heap := s'.heap, gens := s'.gens, drawn := s'.drawn, toks := s'.toks } := by
    cases s'
    cases s
    cases o
    rfl
  rw [e]
  exact ⟨.ref p, _, J, rfl, q ys p pm (pm.nodup_iff.mpr T.nd) so free⟩
end
end Wk
set_option Elab.async false
set_option linter.all false
set_option maxRecDepth 100000
set_option maxHeartbeats 4000000
/-! Family D: usual words, short words, longer words. -/
namespace LB
open PySem L2 Wk
def engO : List Str := ["zero", "one", "two", "three", "four", "five", "six", "seven", "eight", "nine", "ten", "eleven", "twelve", "thirteen", "fourteen", "fifteen", "sixteen", "seventeen", "eighteen", "nineteen"]
def engT : List Str := ["twenty", "thirty", "forty", "fifty", "sixty", "seventy", "eighty", "ninety"]
def engS : List Str := ["thousand", "million", "billion", "trillion", "quadrillion", "quintillion", "sextillion", "septillion", "octillion", "nonillion"]
theorem eng_good : GoodRow (engO ++ (engT ++ ("hundred" : Str) :: engS)) := by
  have e : (engO ++ (engT ++ ("hundred" : Str) :: engS)).all goodB = true := by decide +kernel
  have n : (engO ++ (engT ++ ("hundred" : Str) :: engS)).Nodup := by decide +kernel
  exact ⟨n, fun x hx => goodB_ok (List.all_eq_true.mp e x hx)⟩
theorem take_row {a b : List Str} {h : Str} {l : List Str} {n : Nat} (g : GoodRow (a ++ (b ++ h :: l))) : GoodRow (a ++ (b ++ h :: l.take n)) := by
  have e : a ++ (b ++ h :: l) = (a ++ (b ++ h :: l.take n)) ++ l.drop n := by
    rw [List.append_assoc, List.append_assoc, List.cons_append, List.take_append_drop]
  rw [e] at g
  exact g.left
theorem same_more {H G : Hp} {a : Addr} {x : HO} (s : Same H G) (n : G a = none) : Same H (upd G a x) := fun b o e => by
  rw [upd_ne (ne_of_none (s b o e) n)]
  exact s b o e
/-- a new table of words, its lists apart -/
structure NewTab (H H' : Hp) (t o te sc : Addr) (ones tens : List Str) (hun : Str) (scales : List Str) : Prop where
  n0 : H t = none
  n1 : H o = none
  n2 : H te = none
  n3 : H sc = none
  d1 : o ≠ te
  d2 : o ≠ sc
  d3 : te ≠ sc
  at_ : TabAt H' t ones tens hun scales o te sc
  l1 : ones.length = 20
  l2 : tens.length = 8
  good : GoodRow (ones ++ (tens ++ hun :: scales))
def spEnglishD : Sp := fun vs H Q _ => ∃ n : Nat, vs = [.int (n : Int)] ∧ n ≤ 10 ∧ ∀ (t o te sc : Addr) (ones tens : List Str) (hun : Str) (scales : List Str) (H' : Hp), NewTab H H' t o te sc ones tens hun scales → scales.length = n → Same H H' → Q (.ref t) H'
/-- .. with its words -/
def spEnglishW : Sp := fun vs H Q _ => ∃ n : Nat, vs = [.int (n : Int)] ∧ n ≤ 10 ∧ ∀ (t o te sc : Addr) (H' : Hp), NewTab H H' t o te sc engO engT "hundred" (engS.take n) → Same H H' → Q (.ref t) H'
section
variable {P : Program} {w : World} {K : PySem.W.Frag} {mg : Str → Option Value} {base : Heap}
theorem scEngD : FnScope ["scales_here", "ones", "tens", "scales"] ["scales_here"] (defScope sEnglish) := ⟨rfl, rfl, rfl, by decide +kernel, rfl, by decide +kernel, by decide +kernel⟩
theorem ok_englishW {f : Addr} {fd : FuncData} (F : Fun K "_law_english" "_law_english" sEnglish f fd) : FnOk P w K mg base CX0 1 f fd ["scales_here"] spEnglishW := by
  refine F.ok scEngD (fun vs H Q E h => ?_) (fun cdv A outer s H vs Q E hr h => ?_)
  · obtain ⟨n, rfl, _⟩ := h
    rfl
  · obtain ⟨n, rfl, n10, k⟩ := h
    refine ⟨_, pss_cons (ps_set (i := 1) scEngD.nd rfl (.inl rfl) (pe_words pe_str))
      (pss_cons (ps_set (i := 1) scEngD.nd rfl (.inl rfl) (pe_op op_cat (pv 1) (pe_lst (pa_cons pe_str (pa_cons pe_str (pa_cons pe_str (pa_cons pe_str pa_nil)))))))
      (pss_cons (ps_set (i := 2) scEngD.nd rfl (.inl rfl) (pe_words pe_str))
      (pss_cons (ps_set (i := 3) scEngD.nd rfl (.inl rfl) (pe_words pe_str))
      (pss_one (ps_ret (pe_tup (pa_cons (pv 1) (pa_cons (pv 2) (pa_cons pe_str (pa_cons (pe_slice sl_list (pe_op op_cat (pv 3) (pe_lst (pa_cons pe_str (pa_cons pe_str pa_nil)))) po_none (po_some (pv 0))) pa_nil)))))))))), ?_⟩
    generalize hW1 : Txt.words "zero one two three four five six seven eight nine ten eleven twelve thirteen fourteen fifteen" = W1
    generalize hW2 : Txt.words "twenty thirty forty fifty sixty seventy eighty ninety" = W2
    generalize hW3 : Txt.words "thousand million billion trillion quadrillion quintillion sextillion septillion" = W3
    have e1 : W1 ++ (["sixteen", "seventeen", "eighteen", "nineteen"] : List Str) = engO := by rw [← hW1]; decide +kernel
    have e2 : W2 = engT := by rw [← hW2]; decide +kernel
    have e3 : W3 ++ (["octillion", "nonillion"] : List Str) = engS := by rw [← hW3]; decide +kernel
    have l1 : W1.length = 16 := by
      have z := congrArg List.length e1
      rw [List.length_append] at z
      have z2 : engO.length = 20 := rfl
      have z3 : (["sixteen", "seventeen", "eighteen", "nineteen"] : List Str).length = 4 := rfl
      omega
    have l3 : W3.length = 8 := by
      have z := congrArg List.length e3
      rw [List.length_append] at z
      have z2 : engS.length = 10 := rfl
      have z3 : (["octillion", "nonillion"] : List Str).length = 2 := rfl
      omega
    refine ⟨⟨_, rfl⟩, _, rfl, rfl, by decide +kernel, ?_⟩
    rw [hW1]
    intro p1 n1
    have s1 := same_more (x := .lst (W1.map V.str)) (Same.refl H) n1
    refine ⟨_, rfl, by show 4 ≤ sizeLine; decide, fun p2 n2 => ?_⟩
    have s2 := same_more (x := .lst [.str "sixteen", .str "seventeen", .str "eighteen", .str "nineteen"]) s1 n2
    have p12 : p1 ≠ p2 := ne_of_none upd_same n2
    refine ⟨p1, p2, _, _, rfl, rfl, (upd_ne p12).trans upd_same, upd_same, ?_, ?_⟩
    · rw [List.length_map, l1]
      decide
    rw [show W1.map V.str ++ [.str "sixteen", .str "seventeen", .str "eighteen", .str "nineteen"] = engO.map V.str by rw [← e1, List.map_append]; rfl]
    generalize upd (upd H p1 (.lst (W1.map V.str))) p2 (.lst [.str "sixteen", .str "seventeen", .str "eighteen", .str "nineteen"]) = G2 at s2
    intro p3 n3
    have s3 := same_more (x := .lst (engO.map V.str)) s2 n3
    have h3 : upd G2 p3 (.lst (engO.map V.str)) p3 = some (.lst (engO.map V.str)) := upd_same
    have f3 := Same.free s2 n3
    generalize upd G2 p3 (.lst (engO.map V.str)) = G3 at s3 h3
    refine ⟨⟨_, rfl⟩, _, rfl, rfl, by decide +kernel, ?_⟩
    rw [hW2, e2]
    intro p4 n4
    have s4 := same_more (x := .lst (engT.map V.str)) s3 n4
    have h4 : upd G3 p4 (.lst (engT.map V.str)) p4 = some (.lst (engT.map V.str)) := upd_same
    have f4 := Same.free s3 n4
    have d34 : p3 ≠ p4 := ne_of_none h3 n4
    have h3' := (upd_ne (o := .lst (engT.map V.str)) d34).trans h3
    generalize upd G3 p4 (.lst (engT.map V.str)) = G4 at s4 h4 h3'
    refine ⟨⟨_, rfl⟩, _, rfl, rfl, by decide +kernel, ?_⟩
    rw [hW3]
    intro p5 n5
    have s5 := same_more (x := .lst (W3.map V.str)) s4 n5
    refine ⟨_, rfl, _, rfl, _, rfl, by show 2 ≤ sizeLine; decide, fun p6 n6 => ?_⟩
    have s6 := same_more (x := .lst [.str "octillion", .str "nonillion"]) s5 n6
    have p56 : p5 ≠ p6 := ne_of_none upd_same n6
    refine ⟨p5, p6, _, _, rfl, rfl, (upd_ne p56).trans upd_same, upd_same, ?_, ?_⟩
    · rw [List.length_map, l3]
      decide
    rw [show W3.map V.str ++ [.str "octillion", .str "nonillion"] = engS.map V.str by rw [← e3, List.map_append]; rfl]
    have k6 : ∀ q o, G4 q = some o → upd (upd G4 p5 (.lst (W3.map V.str))) p6 (.lst [.str "octillion", .str "nonillion"]) q = some o := fun q o e => upd_keep (upd_keep e n5) n6
    generalize upd (upd G4 p5 (.lst (W3.map V.str))) p6 (.lst [.str "octillion", .str "nonillion"]) = G6 at s6 k6
    intro p7 n7
    have s7 := same_more (x := .lst (engS.map V.str)) s6 n7
    have h7 : upd G6 p7 (.lst (engS.map V.str)) p7 = some (.lst (engS.map V.str)) := upd_same
    have k7 : ∀ q o, G4 q = some o → upd G6 p7 (.lst (engS.map V.str)) q = some o := fun q o e => upd_keep (k6 q o e) n7
    generalize upd G6 p7 (.lst (engS.map V.str)) = G7 at s7 h7 k7
    refine ⟨_, rfl, _, rfl, p7, _, rfl, SqL.of h7, ?_⟩
    rw [cut_a (l := engS) (k := n) n10]
    intro p8 n8
    have s8 := same_more (x := .lst ((engS.take n).map V.str)) s7 n8
    have h8 : upd G7 p8 (.lst ((engS.take n).map V.str)) p8 = some (.lst ((engS.take n).map V.str)) := upd_same
    have f8 := Same.free s7 n8
    have k8 : ∀ q o, G4 q = some o → upd G7 p8 (.lst ((engS.take n).map V.str)) q = some o := fun q o e => upd_keep (k7 q o e) n8
    have d38 : p3 ≠ p8 := ne_of_none (k7 _ _ h3') n8
    have d48 : p4 ≠ p8 := ne_of_none (k7 _ _ h4) n8
    generalize upd G7 p8 (.lst ((engS.take n).map V.str)) = G8 at s8 h8 k8
    refine ⟨by show 4 ≤ sizeLine; decide, fun p9 n9 => ?_⟩
    exact k p9 p3 p4 p8 _ ⟨Same.free s8 n9, f3, f4, f8, d34, d38, d48, ⟨upd_same, upd_keep (k8 _ _ h3') n9, upd_keep (k8 _ _ h4) n9, upd_keep h8 n9⟩, rfl, rfl, take_row eng_good⟩ (same_more s8 n9)
theorem ok_englishD {f : Addr} {fd : FuncData} (F : Fun K "_law_english" "_law_english" sEnglish f fd) : FnOk P w K mg base CX0 1 f fd ["scales_here"] spEnglishD :=
  (ok_englishW F).imp fun vs H Q E ⟨n, e, n10, k⟩ => ⟨n, e, n10, fun t o te sc H' N s => k t o te sc engO engT "hundred" (engS.take n) H' N (by rw [List.length_take]; exact Nat.min_eq_left n10) s⟩
end
end LB
set_option Elab.async false
set_option linter.all false
set_option maxRecDepth 100000
set_option maxHeartbeats 4000000
/-! Family D: short words. -/
namespace LB
open PySem L2 Wk
def extW (cs : List Nat) (x : Str) : List Str := cs.map fun c => x ++ (⟨#[c]⟩ : Str)
def extL (cs : List Nat) (l : List Str) : List Str := l.flatMap (extW cs)
def layN (cs : List Nat) : Nat → List Str
  | 0 => [""]
  | n + 1 => extL cs (layN cs n)
def shN (cs : List Nat) : Nat → List Str
  | 0 => []
  | n + 1 => shN cs n ++ layN cs (n + 1)
theorem len_app (x y : Str) : (x ++ y).length = x.length + y.length := by
  show (x.cps ++ y.cps).size = _
  rw [Array.size_append]
  rfl
theorem extL_len (cs : List Nat) : ∀ l : List Str, (extL cs l).length = l.length * cs.length
  | [] => by simp [extL]
  | x :: l => by
    show (extW cs x ++ extL cs l).length = _
    rw [List.length_append, extL_len cs l, List.length_cons, Nat.succ_mul]
    unfold extW
    rw [List.length_map]
    omega
theorem layN_len (cs : List Nat) (h : cs.length ≤ 3) : ∀ n, (layN cs n).length ≤ 3 ^ n
  | 0 => Nat.le_refl _
  | n + 1 => by
    show (extL cs (layN cs n)).length ≤ 3 ^ (n + 1)
    rw [extL_len, Nat.pow_succ]
    exact Nat.mul_le_mul (layN_len cs h n) h
theorem layN_small (cs : List Nat) (h : cs.length ≤ 3) {n : Nat} (hn : n ≤ 5) : (layN cs n).length ≤ 243 :=
  Nat.le_trans (layN_len cs h n) (show 3 ^ n ≤ 3 ^ 5 from Nat.pow_le_pow_right (by decide) hn)
theorem shN_small (cs : List Nat) (h : cs.length ≤ 3) : ∀ {n : Nat}, n ≤ 5 → (shN cs n).length ≤ 243 * n
  | 0, _ => Nat.le_refl _
  | n + 1, hn => by
    show (shN cs n ++ layN cs (n + 1)).length ≤ _
    rw [List.length_append]
    have a := shN_small cs h (n := n) (by omega)
    have b := layN_small cs h hn
    omega
theorem layN_word (cs : List Nat) : ∀ (n : Nat), ∀ x ∈ layN cs n, x.length = n
  | 0, x, hx => by
    rw [List.mem_singleton.mp hx]
    decide +kernel
  | n + 1, x, hx => by
    obtain ⟨y, hy, hx⟩ := List.mem_flatMap.mp hx
    obtain ⟨c, _, rfl⟩ := List.mem_map.mp hx
    rw [len_app, layN_word cs n y hy]
    rfl
def spShort : Sp := fun vs H Q _ => ∃ (sg : Str) (m : Nat), vs = [.str sg, .int (m : Int)] ∧ sg.cps.size ≤ 3 ∧ m ≤ 5 ∧ ∀ (p : Addr) (H' : Hp), H p = none → H' p = some (.lst ((shN sg.cps.toList m).map V.str)) → Same H H' → Q (.ref p) H'
section
variable {P : Program} {w : World} {K : PySem.W.Frag} {mg : Str → Option Value} {base : Heap}
theorem scShort : FnScope ["signs", "most", "found", "layer", "turn", "longer", "word", "sign"] ["signs", "most"] (defScope sShort) := ⟨rfl, rfl, rfl, by decide +kernel, rfl, by decide +kernel, by decide +kernel⟩
theorem ok_short {f : Addr} {fd : FuncData} (F : Fun K "_law_short" "_law_short" sShort f fd) (mR : mg "range" = none) : FnOk P w K mg base CX0 1 f fd ["signs", "most"] spShort := by
  refine F.ok scShort (fun vs H Q E h => ?_) (fun cdv A outer s H vs Q E hr h => ?_)
  · obtain ⟨sg, m, rfl, _⟩ := h
    rfl
  · obtain ⟨sg, m, rfl, c3, m5, k⟩ := h
    refine ⟨_, pss_mid (ps_par (i := 2) (j := 3) (by rfl) scShort.nd rfl rfl (by decide) rfl rfl (pa_cons (pe_lst pa_nil) (pa_cons (pe_lst (pa_cons pe_str pa_nil)) pa_nil)) (by rfl))
      (pss_cons (ps_for PassesOwn.never rfl (pi_range1 rfl mR (pa_cons (pv 1) pa_nil)) (pg_name (i := 4) scShort.nd rfl (by first | exact .inl rfl | exact .inr rfl))
        (pss_cons (ps_set (i := 5) scShort.nd rfl (by first | exact .inl rfl | exact .inr rfl) (pe_lst pa_nil))
        (pss_cons (ps_for PassesOwn.never rfl (pi_list (pv 3)) (pg_name (i := 6) scShort.nd rfl (by first | exact .inl rfl | exact .inr rfl))
          (pss_one (ps_expr (pe_bm PySem.F.plainAttrs_list PySem.F.slot_list_extend PySem.F.type_list_extend mt_extend (pv 5)
            (pa_cons (pe_lc (own := [("sign", 7)]) (g := gName 7) rfl scShort.nd (pi_str (pv 0)) (blkOk_by (own := [("sign", 7)]) (N := ["signs", "most", "found", "layer", "turn", "longer", "word", "sign"]) (sc := defScope sShort) (by decide +kernel)) (fun _ _ _ _ _ => pg_name (i := 7) scShort.nd rfl (Or.inl rfl)) (fun _ _ _ _ _ => pts_nil) (fun _ _ _ _ _ => pe_op op_add_str (pv 6) (pv 7))) pa_nil)))))
        (pss_cons (ps_set (i := 3) scShort.nd rfl (by first | exact .inl rfl | exact .inr rfl) (pv 5))
        (pss_one (ps_expr (pe_bm PySem.F.plainAttrs_list PySem.F.slot_list_extend PySem.F.type_list_extend mt_extend (pv 2) (pa_cons (pv 3) pa_nil))))))))
      (pss_one (ps_ret (pv 2)))), ?_⟩
    obtain ⟨cs, hcs⟩ : ∃ cs, sg.cps.toList = cs := ⟨_, rfl⟩
    have ncs : cs.length ≤ 3 := by rw [← hcs, Array.length_toList]; exact c3
    have big : 3000 ≤ sizeLine := by decide
    refine ⟨fun τ G => ∃ a b : Addr, τ = [some (.str sg), some (.int (m : Int)), some (.ref a), some (.ref b), none, none, none, none] ∧ G a = some (.lst []) ∧ G b = some (.lst [.str ""]) ∧ H a = none ∧ H b = none ∧ a ≠ b ∧ Same H G, ?_, ?_⟩
    · refine ⟨by show 0 ≤ sizeLine; omega, fun a na => ?_⟩
      refine ⟨by show 1 ≤ sizeLine; omega, fun b nb => ?_⟩
      have ab : a ≠ b := ne_of_none upd_same nb
      refine ⟨_, _, rfl, a, b, rfl, upd_keep upd_same nb, upd_same, na, ?_, ab, same_more (same_more (Same.refl H) na) nb⟩
      rw [upd_ne ab.symm] at nb
      exact nb
    rintro τ G ⟨a, b, rfl, ha, hb, na, nb, ab, sG⟩
    refine ⟨_, rfl, (m : Int), rfl, by omega, by omega, ?_⟩
    refine for_range (lo := 0) (n := ((m : Nat) : Int).toNat) (fun i σ G => ∃ (b : Addr) (x4 x5 x6 : Option V), σ = [some (.str sg), some (.int (m : Int)), some (.ref a), some (.ref b), x4, x5, x6, none] ∧ G a = some (.lst ((shN cs i).map V.str)) ∧ G b = some (.lst ((layN cs i).map V.str)) ∧ a ≠ b ∧ Same H G)
      ⟨b, none, none, none, rfl, ha, hb, ab, sG⟩ ?_ ?_
    · rintro i σ G hi ⟨b, x4, x5, x6, rfl, ha, hb, ab, sG⟩
      have i5 : i < 5 := by omega
      refine ⟨by show 0 ≤ sizeLine; omega, fun q nq => ?_⟩
      have aq : a ≠ q := ne_of_none ha nq
      have bq : b ≠ q := ne_of_none hb nq
      have nqH := Same.free sG nq
      refine ⟨_, rfl, b, rfl, ⟨_, SqL.of (upd_keep hb nq)⟩, for_list (K := K) (a := b) (xs := (layN cs i).map V.str)
        (fun j σ G2 => ∃ x6 : Option V, σ = [some (.str sg), some (.int (m : Int)), some (.ref a), some (.ref b), some (.int (0 + (i : Int))), some (.ref q), x6, none] ∧ G2 q = some (.lst ((extL cs ((layN cs i).take j)).map V.str)) ∧
          G2 a = some (.lst ((shN cs i).map V.str)) ∧ G2 b = some (.lst ((layN cs i).map V.str)) ∧ Same H G2)
        ⟨_, rfl, upd_same, upd_keep ha nq, upd_keep hb nq, same_more sG nq⟩ (fun j σ G2 _ ⟨_, _, _, _, h, _⟩ => SqL.of h) ?_ ?_⟩
      · rintro j y σ G2 hj ⟨x6, rfl, hq2, ha2, hb2, s2⟩
        obtain ⟨z, hz, rfl⟩ := str_at hj
        have zl := layN_word cs i z (List.mem_of_getElem? hz)
        have jl := (List.getElem?_eq_some_iff.mp hz).1
        have ls := layN_small cs ncs (n := i) (by omega)
        refine ⟨_, rfl, .inl ⟨rfl, _, SqL.of hq2⟩, ?_⟩
        refine ⟨_, rfl, sg, rfl, fun D nD => ?_⟩
        refine lc_it walk_str (fun n G3 => G3 D = some (.lst (((cs.take n).map fun c => z ++ (⟨#[c]⟩ : Str)).map V.str)) ∧ ∀ u o, G2 u = some o → G3 u = some o) ⟨upd_same, fun u o e => upd_keep e nD⟩ (fun _ _ _ _ => trivial) ?_ ?_
        · rintro n y G3 G4 hn ⟨gD, gk⟩ ⟨rfl, c, hc, rfl⟩
          have hc' : cs[n]? = some c := by
            rw [← hcs, Array.getElem?_toList]
            exact hc
          have n3 := (List.getElem?_eq_some_iff.mp hc').1
          refine ⟨rfl, _, rfl, _, rfl, z, _, rfl, rfl, ?_, _, gD, ?_, ?_, ?_⟩
          · show z.length + 1 ≤ sizeLine
            omega
          · rw [List.length_map, List.length_map, List.length_take]
            omega
          · rw [upd_same, List.take_add_one, hc', List.map_append, List.map_append]
            rfl
          · intro u o e
            rw [upd_ne (ne_of_none e nD)]
            exact gk u o e
        · rintro G3 ⟨gD, gk⟩
          have full : cs.take sg.cps.size = cs := List.take_of_length_le (by rw [← hcs, Array.length_toList]; exact Nat.le_refl _)
          rw [full] at gD
          have more : extL cs ((layN cs i).take (j + 1)) = extL cs ((layN cs i).take j) ++ cs.map fun c => z ++ (⟨#[c]⟩ : Str) := by
            unfold extL
            rw [List.take_add_one, hz, List.flatMap_append]
            show _ ++ (extW cs z ++ []) = _
            rw [List.append_nil]
            rfl
          have qD : q ≠ D := ne_of_none hq2 nD
          refine ⟨q, D, _, _, rfl, rfl, gk _ _ hq2, gD, ?_, _, rfl, ?_, ?_, ?_, fun u o e => ?_⟩
          · rw [List.length_map, List.length_map, List.length_map, extL_len, List.length_take]
            have m1 : min j (layN cs i).length * cs.length ≤ 243 * 3 := Nat.mul_le_mul (by omega) ncs
            omega
          · rw [upd_same, more, List.map_append]
          · rw [upd_ne aq]
            exact gk _ _ ha2
          · rw [upd_ne bq]
            exact gk _ _ hb2
          · have uq : u ≠ q := ne_of_none e nqH
            rw [upd_ne uq]
            exact gk _ _ (s2 u o e)
      · rintro σ G2 ⟨x6, rfl, hq2, ha2, hb2, s2⟩
        rw [List.length_map, List.take_length] at hq2
        have ls := layN_small cs ncs (n := i + 1) (by omega)
        have ss := shN_small cs ncs (n := i) (by omega)
        refine ⟨_, rfl, _, rfl, .inl ⟨rfl, _, SqL.of ha2⟩, _, rfl, a, q, _, _, rfl, rfl, ha2, hq2, ?_, q, _, _, _, rfl, by rw [upd_same, ← List.map_append]; rfl, ?_, aq, fun u o e => ?_⟩
        · rw [List.length_map, List.length_map]
          have e : extL cs (layN cs i) = layN cs (i + 1) := rfl
          rw [e]
          omega
        · rw [upd_ne aq.symm]
          exact hq2
        · have ua : u ≠ a := ne_of_none e na
          rw [upd_ne ua]
          exact s2 u o e
    · rintro σ G ⟨b, x4, x5, x6, rfl, ha, hb, ab, sG⟩
      rw [Int.toNat_natCast] at ha
      exact ⟨_, rfl, k a G na (by rw [hcs]; exact ha) sG⟩
end
end LB
set_option Elab.async false
set_option linter.all false
set_option maxRecDepth 100000
set_option maxHeartbeats 4000000
/-! Family D: longer words. -/
namespace LB
open PySem L2 Wk
def rMulS0 : R2 := fun x y H Q => ∃ (z : Str) (k : Int), x = .str z ∧ y = .int k ∧ 0 ≤ k ∧ k ≤ 1000 ∧ z.length ≤ 1000 ∧ 1 ≤ z.length ∧ Q (.str ⟨(List.replicate k.toNat z.cps).foldl (· ++ ·) #[]⟩) H
theorem op_mulS0 {X : Cx} : OpR X (binaryOp .Mult) rMulS0 := by
  intro pins s σ H x y v u Q I rx ry h
  obtain ⟨z, k, rfl, rfl, k0, k3, z1, z0, q⟩ := h
  obtain ⟨t, rfl⟩ := rx
  obtain ⟨t2, rfl⟩ := ry
  by_cases k2 : 2 ≤ k
  · exact op_mulS pins s σ H (.str z) (.int k) _ _ Q I ⟨t, rfl⟩ ⟨t2, rfl⟩ ⟨z, k, rfl, rfl, k2, k3, z1, z0, q⟩
  · refine PySem.P.mul_str ?_ (fun a b => ?_) (fun a b => ?_) ?_
    · rw [decide_eq_false (by omega), decide_eq_false (by omega)]
      rfl
    · have e : k = 1 := by omega
      rw [e] at b
      simp at b
    · have e : k = 1 := by omega
      rw [e] at b
      simp at b
    · by_cases k1 : k < 1
      · rw [if_pos k1]
        have e : k = 0 := by omega
        subst e
        exact ⟨by decide, .str Str.empty, H, I.tok _, ⟨_, rfl⟩, q⟩
      · have e : k = 1 := by omega
        subst e
        rw [if_neg (by decide), if_pos (by simp)]
        have q1 : (List.replicate (1 : Int).toNat z.cps).foldl (· ++ ·) #[] = z.cps := by
          show #[] ++ z.cps = z.cps
          simp
        rw [q1] at q
        exact ⟨.str z, H, I, ⟨t, rfl⟩, q⟩
/-- some letters in front -/
def lng (c k : Nat) (x : Str) : Str := ⟨(List.replicate k (#[c] : Array Nat)).foldl (· ++ ·) #[]⟩ ++ x
theorem rep_list (c : Nat) : ∀ (k : Nat) (acc : Array Nat), ((List.replicate k (#[c] : Array Nat)).foldl (· ++ ·) acc).toList = acc.toList ++ List.replicate k c
  | 0, acc => by simp
  | k + 1, acc => by
    rw [List.replicate_succ, List.foldl_cons, rep_list c k]
    simp [List.replicate_succ]
theorem lng_list (c k : Nat) (x : Str) : (lng c k x).cps.toList = List.replicate k c ++ x.cps.toList := by
  show (((List.replicate k (#[c] : Array Nat)).foldl (· ++ ·) #[]) ++ x.cps).toList = _
  rw [Array.toList_append, rep_list]
  simp
/-- what is behind the letters in front -/
def core (x : Str) : List Nat := x.cps.toList.dropWhile fun c => c == 97 || c == 98 || c == 122
theorem core_lng {c k : Nat} {x : Str} (hc : c = 97 ∨ c = 98 ∨ c = 122) : core (lng c k x) = core x := by
  unfold core
  rw [lng_list]
  induction k with
  | zero => rfl
  | succ k ih =>
    rw [List.replicate_succ, List.cons_append, List.dropWhile_cons]
    have e : (c == 97 || c == 98 || c == 122) = true := by
      rcases hc with rfl | rfl | rfl <;> rfl
    rw [if_pos e]
    exact ih
theorem lng_good {c k : Nat} {x : Str} (hc : c = 97 ∨ c = 98 ∨ c = 122) (hk : k ≤ 3) (hx : GoodWord x) (h10 : x.length ≤ 10) : GoodWord (lng c k x) := by
  have l : (lng c k x).length = k + x.length := by
    show (lng c k x).cps.size = _
    rw [← Array.length_toList, lng_list, List.length_append, List.length_replicate, Array.length_toList]
    rfl
  obtain ⟨a, b, d⟩ := hx
  refine ⟨by omega, by omega, fun e he => ?_⟩
  rw [lng_list] at he
  rcases List.mem_append.mp he with h | h
  · rw [(List.mem_replicate.mp h).2]
    omega
  · exact d e h
def spLonger : Sp := fun vs H Q _ => ∃ (p : Addr) (d s c : Int) (x : Str), vs = [.ref p, .str x] ∧ RngAtD H p d s c ∧ c < 2 ^ 29 ∧ x.length ≤ 100 ∧
  ∀ (ch k : Nat) (d' c' : Int) (H' : Hp), (ch = 97 ∨ ch = 98 ∨ ch = 122) → k ≤ 3 → c' ≤ c + 2 → RngAtD H' p d' s c' → (∀ q o, H q = some o → q ≠ p → H' q = some o) → Q (.str (lng ch k x)) H'
section
variable {P : Program} {w : World} {K : PySem.W.Frag} {mg : Str → Option Value} {base : Heap}
theorem scLonger : FnScope ["pool", "word"] ["pool", "word"] (defScope sLonger) := ⟨rfl, rfl, rfl, by decide +kernel, rfl, by decide +kernel, by decide +kernel⟩
theorem abz : ∀ i : Fin 3, ∃ c, atI ("abz" : Str).cps.toList (i.1 : Int) = some c ∧ (c = 97 ∨ c = 98 ∨ c = 122) := by decide +kernel
theorem ok_longer {f fD : Addr} {fd dD : FuncData} (F : Fun K "_law_longer" "_law_longer" sLonger f fd) (D : Def1 P w K mg base "_law_draw" 1 fD dD ["pool", "many"] spDrawD) : FnOk P w K mg base CX0 2 f fd ["pool", "word"] spLonger := by
  refine F.ok scLonger (fun vs H Q E h => ?_) (fun cdv A outer s H vs Q E hr h => ?_)
  · obtain ⟨p, d, s, c, x, rfl, _⟩ := h
    rfl
  · obtain ⟨p, d, sd, c, x, rfl, B, c29, x100, k⟩ := h
    have hr1 : Room 1 _ := hr
    refine ⟨_, pss_one (ps_ret (pe_op op_add_str (pe_op op_mulS0 (pe_ix ix_str pe_str (pe_call D.ok hr1 (by rfl) D.g D.k D.b .nil pass0 (pa_cons (pv 0) (pa_cons pe_int pa_nil))) (fun _ _ => rfl)) (pe_call D.ok hr1 (by rfl) D.g D.k D.b .nil pass0 (pa_cons (pv 0) (pa_cons pe_int pa_nil)))) (pv 1))), ?_⟩
    have small : ∀ {n : Nat}, n < 2 ^ 10 → n < 2 ^ 1000 := fun h => Nat.lt_of_lt_of_le h (Nat.pow_le_pow_right (by decide) (by decide))
    refine ⟨_, rfl, p, d, sd, c, 3, rfl, B, by decide, small (by decide), by omega, fun r d1 c1 H1 r0 r1 e1 B1 k1 => ?_⟩
    obtain ⟨rn, rfl, r3⟩ : ∃ rn : Nat, r = (rn : Int) ∧ rn < 3 := ⟨r.toNat, by omega, by omega⟩
    obtain ⟨ch, hat, hch⟩ := abz ⟨rn, r3⟩
    refine ⟨_, _, ch, rfl, rfl, by decide, hat, ?_⟩
    refine ⟨_, rfl, p, d1, sd, c1, 4, rfl, B1, by decide, small (by decide), by omega, fun q d2 c2 H2 q0 q1 e2 B2 k2 => ?_⟩
    obtain ⟨qn, rfl, q4⟩ : ∃ qn : Nat, q = (qn : Int) ∧ qn < 4 := ⟨q.toNat, by omega, by omega⟩
    refine ⟨_, _, rfl, rfl, by omega, by omega, by show 1 ≤ 1000; decide, by show 1 ≤ 1; decide, ?_⟩
    have l1 : (⟨(List.replicate ((qn : Int)).toNat (⟨#[ch]⟩ : Str).cps).foldl (· ++ ·) #[]⟩ : Str).length = qn := by
      show ((List.replicate qn (#[ch] : Array Nat)).foldl (· ++ ·) #[]).size = qn
      rw [size_fold]
      show 0 + _ * 1 = qn
      omega
    refine ⟨_, rfl, _, _, rfl, rfl, ?_, k ch qn d2 c2 H2 hch (by omega) (by omega) B2 fun u o e n => k2 u o (k1 u o e n) n⟩
    have big : 1000 ≤ sizeLine := by decide
    omega
end
end LB
set_option Elab.async false
set_option linter.all false
set_option maxRecDepth 100000
set_option maxHeartbeats 4000000
/-! Family D: the words of a drawn table. -/
namespace LB
open PySem L2 Wk
theorem poolD1 : GoodRow (shN [97, 98] 5) ∧ (shN [97, 98] 5).length = 62 := by
  have e : (shN [97, 98] 5).all goodB = true := by decide +kernel
  have n : (shN [97, 98] 5).Nodup := by decide +kernel
  have l : (shN [97, 98] 5).length = 62 := by decide +kernel
  exact ⟨⟨n, fun x hx => goodB_ok (List.all_eq_true.mp e x hx)⟩, l⟩
theorem poolD2 : GoodRow (shN [97, 98, 99] 4) ∧ (shN [97, 98, 99] 4).length = 120 := by
  have e : (shN [97, 98, 99] 4).all goodB = true := by decide +kernel
  have n : (shN [97, 98, 99] 4).Nodup := by decide +kernel
  have l : (shN [97, 98, 99] 4).length = 120 := by decide +kernel
  exact ⟨⟨n, fun x hx => goodB_ok (List.all_eq_true.mp e x hx)⟩, l⟩
def xyz : List Str := shN [120, 121, 122] 4
theorem xyz_ok : xyz.length = 120 ∧ ∀ x ∈ xyz, GoodWord x ∧ x.length ≤ 10 := by
  have e : xyz.all (fun x => goodB x && decide (x.length ≤ 10)) = true := by decide +kernel
  have l : xyz.length = 120 := by decide +kernel
  refine ⟨l, fun x hx => ?_⟩
  have z := List.all_eq_true.mp e x hx
  rw [Bool.and_eq_true, decide_eq_true_eq] at z
  exact ⟨goodB_ok z.1, z.2⟩
def apartD : List Str := xyz.filter fun x => !(x.cps.toList.head? == some 122)
theorem apartD_ok : (apartD.map core).Nodup ∧ (apartD.map core).length = 80 := by
  constructor <;> decide +kernel
theorem len_sub {α : Type} [DecidableEq α] : ∀ (l m : List α), l.Nodup → (∀ x ∈ l, x ∈ m) → l.length ≤ m.length
  | [], m, _, _ => Nat.zero_le _
  | x :: l, m, d, s => by
    obtain ⟨d1, d2⟩ := List.nodup_cons.mp d
    have hx : x ∈ m := s x List.mem_cons_self
    have p := (List.perm_cons_erase hx).length_eq
    have z := len_sub l (m.erase x) d2 fun y hy => (List.mem_erase_of_ne (fun e : y = x => d1 (e ▸ hy))).mpr (s y (List.mem_cons_of_mem _ hy))
    simp only [List.length_cons] at p ⊢
    omega
/-- a list of longer words, one for each word -/
structure Lngs (R ws : List Str) : Prop where
  len : R.length = ws.length
  each : ∀ (i : Nat) (x : Str), ws[i]? = some x → ∃ (c k : Nat), (c = 97 ∨ c = 98 ∨ c = 122) ∧ k ≤ 3 ∧ R[i]? = some (lng c k x)
theorem Lngs.nil : Lngs [] [] := ⟨rfl, fun i x h => by simp at h⟩
theorem Lngs.snoc {R ws : List Str} {x : Str} {c k : Nat} (l : Lngs R ws) (hc : c = 97 ∨ c = 98 ∨ c = 122) (hk : k ≤ 3) : Lngs (R ++ [lng c k x]) (ws ++ [x]) := by
  refine ⟨by rw [List.length_append, List.length_append, l.len]; rfl, fun i y h => ?_⟩
  rw [List.getElem?_append] at h ⊢
  rw [l.len]
  by_cases hi : i < ws.length
  · rw [if_pos hi] at h ⊢
    exact l.each i y h
  · rw [if_neg hi] at h ⊢
    cases e : i - ws.length with
    | zero =>
      rw [e] at h
      obtain rfl : x = y := Option.some.inj h
      exact ⟨c, k, hc, hk, rfl⟩
    | succ n =>
      rw [e] at h
      cases h
theorem lngs_good {R : List Str} (l : Lngs R xyz) {ys : List Str} (nd : ys.Nodup) (hm : ∀ x, x ∈ ys ↔ x ∈ R) : GoodRow ys ∧ 80 ≤ ys.length := by
  have good : ∀ x ∈ R, GoodWord x := fun x hx => by
    obtain ⟨i, hi⟩ := List.mem_iff_getElem?.mp hx
    have il := (List.getElem?_eq_some_iff.mp hi).1
    rw [l.len] at il
    have hw := List.getElem?_eq_getElem il
    obtain ⟨c, k, hc, hk, e⟩ := l.each i _ hw
    rw [hi] at e
    rw [Option.some.inj e]
    obtain ⟨g, s⟩ := xyz_ok.2 _ (List.mem_of_getElem? hw)
    exact lng_good hc hk g s
  refine ⟨⟨nd, fun x hx => good x ((hm x).mp hx)⟩, ?_⟩
  have z := len_sub (apartD.map core) (ys.map core) apartD_ok.1 fun e he => by
    obtain ⟨x, hx, rfl⟩ := List.mem_map.mp he
    obtain ⟨i, hi⟩ := List.mem_iff_getElem?.mp (List.mem_filter.mp hx).1
    obtain ⟨c, k, hc, hk, e⟩ := l.each i x hi
    exact List.mem_map.mpr ⟨_, (hm _).mpr (List.mem_of_getElem? e), core_lng hc⟩
  rw [apartD_ok.2, List.length_map] at z
  exact z
/-- the first 29 and more of distinct words, as a table -/
theorem row_of {fo : List Str} {hun : Str} (hh : fo[28]? = some hun) : fo.take 20 ++ ((fo.drop 20).take 8 ++ hun :: fo.drop 29) = fo := by
  have e1 : hun :: fo.drop 29 = fo.drop 28 := by
    obtain ⟨h28, e28⟩ := List.getElem?_eq_some_iff.mp hh
    rw [List.drop_eq_getElem_cons h28, e28]
  have e2 : (fo.drop 20).take 8 ++ fo.drop 28 = fo.drop 20 := by
    have z := List.take_append_drop 8 (fo.drop 20)
    rw [List.drop_drop] at z
    exact z
  rw [e1, e2, List.take_append_drop]
def rLenK (K : PySem.W.Frag) : List V → Hp → VK → Prop := fun xs H Q => ∃ (p : Addr) (ys : List V), xs = [.ref p] ∧ (SqL K H p ys ∨ SqT K H p ys) ∧ Q (.int ys.length) H
theorem call_lenK {X : Cx} (K0 : PySem.W.Frag) (hK : X.K = K0) : CallR X (.builtin "len") (rLenK K0) := by
  subst hK
  exact call_len_seq
end LB
set_option Elab.async false
set_option linter.all false
set_option maxRecDepth 100000
/-! A built-in method called within a comprehension: K is told. -/
namespace Wk
open PySem PySem.Spec PyProof.Rows L2
theorem pe_bmK {X : Cx} (K0 : PySem.W.Frag) (hK : X.K = K0) {o e : Expr} {es : List Expr} {to : TE} {t : TA} {nm : Str} {ap cp : Pos} {T id : String} {r : V → List V → Hp → VK → Prop} (pa : PlainAttrs T) (sl : Slot T nm id) (ty : typeOf (.builtin id) = pure (.type "method_descriptor")) (hm : MtR X id r)
    (ho : PE X o to) (ha : PA X (e :: es) t) (h1 : attributeBase o nm X.env (eval o X.env) = eval o X.env := by rfl)
    (h2 : ((backTo cp (starEach (e :: es) X.env)).all (fun x => !x.1) && (backToKw cp (keywordEach [] X.env)).all (fun x => x.1.isSome) && decide ((e :: es).length + ([] : List Keyword).length + (if ([] : List Keyword).isEmpty then 0 else 1) < 30)) = true := by rfl)
    (h3 : (ap.endLine == cp.line) = true := by rfl) (h4 : starEach (e :: es) X.env = (false, eval e X.env) :: starEach es X.env := by rfl) (h5 : (backTo cp (starEach es X.env)).any (·.1) = false := by rfl) :
    PE X (.Call (.Attribute o nm ap) (e :: es) [] cp) (tBM K0 T r to t) := by
  subst hK
  exact pe_bm pa sl ty hm ho ha h1 h2 h3 h4 h5
end Wk
set_option Elab.async false
set_option linter.all false
set_option maxRecDepth 100000
set_option maxHeartbeats 4000000
/-! Family D: a drawn table. -/
namespace LB
open PySem L2 Wk
def spBook : Sp := fun vs H Q _ => ∃ (p : Addr) (d s c : Int) (n : Nat), vs = [.ref p, .int (n : Int)] ∧ RngAtD H p d s c ∧ n ≤ 20 ∧ c < 2 ^ 28 ∧
  ∀ (t o te sc : Addr) (ones tens : List Str) (hun : Str) (scales : List Str) (d' c' : Int) (H' : Hp), NewTab H H' t o te sc ones tens hun scales → scales.length = n → RngAtD H' p d' s c' → c' ≤ c + 500 → (∀ q o, H q = some o → q ≠ p → H' q = some o) → Q (.ref t) H'
/-- what a draw leaves -/
def KeepP (p : Addr) (H H' : Hp) : Prop := ∀ q o, H q = some o → q ≠ p → H' q = some o
theorem KeepP.of {p : Addr} {H G : Hp} (s : Same H G) : KeepP p H G := fun q o e _ => s q o e
theorem KeepP.trans {p : Addr} {H G I : Hp} (a : KeepP p H G) (b : KeepP p G I) : KeepP p H I := fun q o e n => b q o (a q o e n) n
theorem KeepP.free {p : Addr} {H G : Hp} (a : KeepP p H G) (hp : ∃ o, G p = some o) {x : Addr} (n : G x = none) : H x = none := by
  cases e : H x with
  | none => rfl
  | some o =>
    have xp : x ≠ p := fun z => by
      obtain ⟨u, hu⟩ := hp
      rw [z, hu] at n
      cases n
    rw [a x o e xp] at n
    cases n
theorem RngAtD.same {H G : Hp} {p : Addr} {d s c : Int} (B : RngAtD H p d s c) (k : Same H G) : RngAtD G p d s c := ⟨k _ _ B.at_, B.d0, B.s0, B.s1, B.c0⟩
theorem NewTab.before {H H1 H2 : Hp} {t o te sc p : Addr} {ones tens : List Str} {hun : Str} {scales : List Str} (T : NewTab H1 H2 t o te sc ones tens hun scales) (k : KeepP p H H1) (hp : ∃ o, H1 p = some o) : NewTab H H2 t o te sc ones tens hun scales :=
  ⟨k.free hp T.n0, k.free hp T.n1, k.free hp T.n2, k.free hp T.n3, T.d1, T.d2, T.d3, T.at_, T.l1, T.l2, T.good⟩
theorem RngAtD.ne {H : Hp} {p a : Addr} {d s c : Int} (B : RngAtD H p d s c) (n : H a = none) : a ≠ p := fun z => by
  rw [z, B.at_] at n
  cases n
section
variable {P : Program} {w : World} {K : PySem.W.Frag} {mg : Str → Option Value} {base : Heap}
theorem scBook : FnScope ["pool", "scales_here", "way", "many", "left", "found", "word", "turn"] ["pool", "scales_here"] (defScope sBook) := ⟨rfl, rfl, rfl, by decide +kernel, rfl, by decide +kernel, by decide +kernel⟩
theorem ok_book {f fD fE fS fL : Addr} {fd dD dE dS dL : FuncData} (F : Fun K "_law_book" "_law_book" sBook f fd) (D : Def1 P w K mg base "_law_draw" 1 fD dD ["pool", "many"] spDrawD) (En : Def1 P w K mg base "_law_english" 1 fE dE ["scales_here"] spEnglishD)
    (Sh : Def1 P w K mg base "_law_short" 1 fS dS ["signs", "most"] spShort) (Lo : Def1 P w K mg base "_law_longer" 2 fL dL ["pool", "word"] spLonger) (mS : mg "sorted" = none) (mT : mg "set" = none) (mR : mg "range" = none) (mL : mg "len" = none) :
    FnOk P w K mg base CX0 3 f fd ["pool", "scales_here"] spBook := by
  refine F.ok scBook (fun vs H Q E h => ?_) (fun cdv A outer s H vs Q E hr h => ?_)
  · obtain ⟨p, d, s, c, n, rfl, _⟩ := h
    rfl
  · obtain ⟨p, d, sd, c, n, rfl, B, n20, c28, k⟩ := h
    have hr2 : Room 2 _ := hr
    have hr1 : Room 1 _ := hr2.mono (by decide)
    refine ⟨_, pss_cons (ps_par (i := 2) (j := 3) (by rfl) scBook.nd rfl rfl (by decide) rfl rfl (pa_cons (pe_call D.ok hr1 (by rfl) D.g D.k D.b .nil pass0 (pa_cons (pv 0) (pa_cons pe_int pa_nil))) (pa_cons (pe_op op_add pe_int (pv 1)) pa_nil)) (by rfl))
        (pss_mid (ps_if (PW.pt (pw_and (pt_cmpR op_eq (pv 2) pe_int (nomark _)) (pw_and1 (pt_cmpR op_lt (pv 1) pe_int (nomark _))))) (pss_one (ps_ret (pe_call En.ok hr1 (by rfl) En.g En.k En.b .nil pass0 (pa_cons (pv 1) pa_nil)))) pss_nil)
        (pss_mid (ps_set (i := 4) scBook.nd rfl (by first | exact .inl rfl | exact .inr rfl) (pe_ifExp (pt_cmpR op_lt (pv 2) pe_int (nomark _)) (pe_call Sh.ok hr1 (by rfl) Sh.g Sh.k Sh.b .nil pass0 (pa_cons pe_str (pa_cons pe_int pa_nil))) (pe_call Sh.ok hr1 (by rfl) Sh.g Sh.k Sh.b .nil pass0 (pa_cons pe_str (pa_cons pe_int pa_nil)))))
        (pss_mid (ps_if (pt_cmpR op_eq (pv 2) pe_int (nomark _)) (pss_one (ps_set (i := 4) scBook.nd rfl (by first | exact .inl rfl | exact .inr rfl) (pe_callB (cr_sortTx rfl) (by rfl) mS (by decide +kernel) (pa_cons (pe_callTy (cr_setTx rfl) (by rfl) mT (by decide +kernel) (pa_cons (pe_lc (own := [("word", 6)]) (g := gName 6) rfl scBook.nd (pi_list (pe_call Sh.ok hr1 (by rfl) Sh.g Sh.k Sh.b .nil pass0 (pa_cons pe_str (pa_cons pe_int pa_nil)))) (blkOk_by (own := [("word", 6)]) (N := ["pool", "scales_here", "way", "many", "left", "found", "word", "turn"]) (sc := defScope sBook) (by decide +kernel)) (fun _ _ _ _ _ => pg_name (i := 6) scBook.nd rfl (Or.inl rfl)) (fun _ _ _ _ _ => pts_nil) (fun _ _ _ _ _ => pe_call Lo.ok hr2 (by rfl) Lo.g Lo.k Lo.b .nil pass0 (pa_cons (pv 0) (pa_cons (pv 6) pa_nil)))) pa_nil)) pa_nil)))) pss_nil)
        (pss_mid (ps_setLc (i := 5) (y := "found") (own := [("turn", 7)]) (g := gName 7) rfl scBook.nd rfl rfl (sw_true rfl rfl rfl rfl) (pi_range1 rfl mR (pa_cons (pv 3) pa_nil)) (blkOk_by (own := [("turn", 7)]) (N := ["pool", "scales_here", "way", "many", "left", "found", "word", "turn"]) (sc := defScope sBook) (by decide +kernel)) (fun _ _ _ _ _ => pg_name (i := 7) scBook.nd rfl (Or.inl rfl)) (fun _ _ _ _ _ => pts_nil) (fun _ _ _ _ _ => pe_bmK K rfl PySem.F.plainAttrs_list PySem.F.slot_list_pop PySem.F.type_list_pop mt_popAt (pv 4) (pa_cons (pe_call D.ok hr1 (by rfl) D.g D.k D.b .nil pass0 (pa_cons (pv 0) (pa_cons (pe_callB (call_lenK K rfl) (by rfl) mL PySem.boot_len (pa_cons (pv 4) pa_nil)) pa_nil))) pa_nil)))
        (pss_one (ps_ret (pe_tup (pa_cons (pe_slice sl_list (pv 5) po_none (po_some pe_int)) (pa_cons (pe_slice sl_list (pv 5) (po_some pe_int) (po_some pe_int)) (pa_cons (pe_ix ix_list (pv 5) pe_int (fun _ _ => rfl)) (pa_cons (pe_slice sl_list (pv 5) (po_some pe_int) po_none) pa_nil))))))))))), ?_⟩
    have small : ∀ {n : Nat}, n < 2 ^ 10 → n < 2 ^ 1000 := fun h => Nat.lt_of_lt_of_le h (Nat.pow_le_pow_right (by decide) (by decide))
    have big : 3000 ≤ sizeLine := by decide
    refine ⟨_, rfl, p, d, sd, c, 4, rfl, B, by decide, small (by decide), by omega, fun way d1 c1 H1 w0 w1 e1 B1 K1 => ?_⟩
    have K1 : KeepP p H H1 := K1
    refine ⟨_, rfl, _, _, rfl, rfl, _, _, rfl, ?_⟩
    refine ⟨fun τ G => τ = [some (.ref p), some (.int (n : Int)), some (.int way), some (.int (29 + (n : Int))), none, none, none, none] ∧ G = H1, ?_, ?_⟩
    · refine ⟨_, rfl, rfl, _, rfl, ite2 (fun z1 => ?_) (fun z1 => ⟨rfl, rfl⟩)⟩
      refine ⟨_, rfl, _, _, rfl, rfl, _, rfl, ite2 (fun z2 => ?_) (fun z2 => ⟨rfl, rfl⟩)⟩
      have z3 := of_decide_eq_true z2
      refine ⟨_, rfl, n, rfl, by omega, fun t o te sc ones tens hun scales H2 T l s2 => ?_⟩
      exact k t o te sc ones tens hun scales d1 c1 H2 (T.before K1 ⟨_, B1.at_⟩) l (B1.same s2) (by omega) (K1.trans (KeepP.of s2))
    rintro τ G ⟨rfl, rfl⟩
    refine ⟨fun τ G2 => ∃ (q : Addr) (l : List Str), τ = [some (.ref p), some (.int (n : Int)), some (.int way), some (.int (29 + (n : Int))), some (.ref q), none, none, none] ∧ G2 q = some (.lst (l.map V.str)) ∧ GoodRow l ∧ 49 ≤ l.length ∧ l.length ≤ 120 ∧ G q = none ∧ Same G G2, ?_, ?_⟩
    · refine ⟨_, rfl, _, _, rfl, rfl, _, rfl, ite2 (fun z => ?_) (fun z => ?_)⟩
      · refine ⟨"ab", 5, rfl, by decide, by decide, fun q G2 nq hq s2 => ⟨q, shN [97, 98] 5, rfl, hq, poolD1.1, ?_, ?_, nq, s2⟩⟩
        · rw [poolD1.2]; decide
        · rw [poolD1.2]; decide
      · refine ⟨"abc", 4, rfl, by decide, by decide, fun q G2 nq hq s2 => ⟨q, shN [97, 98, 99] 4, rfl, hq, poolD2.1, ?_, ?_, nq, s2⟩⟩
        · rw [poolD2.2]; decide
        · rw [poolD2.2]; decide
    rintro τ G2 ⟨q, l, rfl, hq, good, l0, l1, nq, s2⟩
    have B2 := B1.same s2
    have qp : q ≠ p := B1.ne nq
    refine ⟨fun τ G3 => ∃ (q : Addr) (l : List Str) (d3 c3 : Int), τ = [some (.ref p), some (.int (n : Int)), some (.int way), some (.int (29 + (n : Int))), some (.ref q), none, none, none] ∧ G3 q = some (.lst (l.map V.str)) ∧ GoodRow l ∧ 49 ≤ l.length ∧ l.length ≤ 120 ∧ G q = none ∧ RngAtD G3 p d3 sd c3 ∧ c3 ≤ c1 + 240 ∧ KeepP p G G3, ?_, ?_⟩
    · refine ⟨_, rfl, rfl, _, rfl, ite2 (fun z => ?_) (fun z => ⟨q, l, d1, c1, rfl, hq, good, l0, l1, nq, B2, by omega, KeepP.of s2⟩)⟩
      refine ⟨"xyz", 4, rfl, by decide, by decide, fun u G3 nu hu s3 => ?_⟩
      have hu : G3 u = some (.lst (xyz.map V.str)) := hu
      have B3 := B2.same s3
      have up : u ≠ p := B2.ne nu
      refine ⟨u, rfl, ⟨_, SqL.of hu⟩, fun L nL => ?_⟩
      have Lp : L ≠ p := B3.ne nL
      refine lc_list (K := K) (a := u) (xs := xyz.map V.str) (fun i G4 => ∃ (R : List Str) (d4 c4 : Int), G4 L = some (.lst (R.map V.str)) ∧ Lngs R (xyz.take i) ∧ RngAtD G4 p d4 sd c4 ∧ c4 ≤ c1 + 2 * (i : Int) ∧ KeepP p G3 G4)
        ⟨[], d1, c1, upd_same, Lngs.nil, B3.same (same_more (Same.refl _) nL), by omega, KeepP.of (same_more (Same.refl _) nL)⟩ (fun i G4 _ ⟨_, _, _, _, _, _, _, kk⟩ => SqL.of (kk _ _ hu up)) ?_ ?_
      · rintro i y G4 hi ⟨R, d4, c4, hL, lg, B4, e4, k4⟩
        obtain ⟨x, hx, rfl⟩ := str_at hi
        have il := (List.getElem?_eq_some_iff.mp hx).1
        rw [xyz_ok.1] at il
        obtain ⟨gx, x10⟩ := xyz_ok.2 x (List.mem_of_getElem? hx)
        have Rl := lg.len
        rw [List.length_take, xyz_ok.1] at Rl
        refine ⟨rfl, _, rfl, _, rfl, p, d4, sd, c4, x, rfl, B4, by omega, by omega, fun ch kk d5 c5 G5 hch hkk e5 B5 k5 => ?_⟩
        refine ⟨_, k5 _ _ hL Lp, by rw [List.length_map]; omega, R ++ [lng ch kk x], d5, c5, ?_, ?_, ?_, by omega, ?_⟩
        · rw [upd_same, List.map_append]
          rfl
        · rw [List.take_add_one, hx]
          exact lg.snoc hch hkk
        · exact ⟨by rw [upd_ne Lp.symm]; exact B5.at_, B5.d0, B5.s0, B5.s1, B5.c0⟩
        · intro v o e nv
          rw [upd_ne (ne_of_none e nL)]
          exact k5 _ _ (k4 _ _ e nv) nv
      · rintro G4 ⟨R, d4, c4, hL, lg, B4, e4, k4⟩
        rw [List.length_map, List.take_length] at lg
        have Rl := lg.len
        rw [xyz_ok.1] at Rl
        rw [List.length_map, xyz_ok.1] at e4
        refine ⟨L, R, rfl, SqL.of hL, by rw [Rl]; decide, fun st l' nst nd hm ln => ?_⟩
        have sS := same_more (x := SetTx P w st l') (Same.refl G4) nst
        refine ⟨st, l', rfl, upd_same, Nat.lt_of_le_of_lt ln (by rw [Rl]; decide), fun ys q2 pm ynd so nq2 => ?_⟩
        have g := lngs_good lg ynd fun x => (pm.mem_iff).trans (hm x)
        have s5 := same_more (x := .lst (ys.map V.str)) sS nq2
        have kall : KeepP p G _ := ((KeepP.of s2).trans (KeepP.of s3)).trans (k4.trans (KeepP.of s5))
        have yl := pm.length_eq
        refine ⟨q2, ys, d4, c4, rfl, upd_same, g.1, by omega, by omega, ?_, B4.same s5, by omega, kall⟩
        exact (((KeepP.of s2).trans (KeepP.of s3)).trans k4).free ⟨_, B4.at_⟩ (Same.free sS nq2)
    rintro τ G3 ⟨q, pool, d3, c3, rfl, h8, good, pl0, pl1, nq, B3, e3, K3⟩
    have qp : q ≠ p := B1.ne nq
    have nN : (29 + (n : Int)) = ((29 + n : Nat) : Int) := by omega
    refine ⟨fun τ G9 => ∃ (f : Addr) (fo : List Str) (d9 c9 : Int), τ = [some (.ref p), some (.int (n : Int)), some (.int way), some (.int (29 + (n : Int))), some (.ref q), some (.ref f), none, none] ∧ G9 f = some (.lst (fo.map V.str)) ∧ fo.length = 29 + n ∧ GoodRow fo ∧ RngAtD G9 p d9 sd c9 ∧ c9 ≤ c1 + 300 ∧ KeepP p G G9, ?_, ?_⟩
    · refine ⟨_, rfl, ((29 + n : Nat) : Int), congrArg (fun z => [V.int z]) nN, by omega, by omega, fun f nf => ?_⟩
      have qf : q ≠ f := ne_of_none h8 nf
      have fp : f ≠ p := B3.ne nf
      have nfG : G f = none := K3.free ⟨_, B3.at_⟩ nf
      refine lc_range (lo := 0) (n := (((29 + n : Nat) : Int)).toNat) (fun i G9 => ∃ (fo po : List Str) (d9 c9 : Int), G9 f = some (.lst (fo.map V.str)) ∧ G9 q = some (.lst (po.map V.str)) ∧ fo.length = i ∧ po.length + i = pool.length ∧ List.Perm (fo ++ po) pool ∧ RngAtD G9 p d9 sd c9 ∧ c9 ≤ c3 + (i : Int) ∧ KeepP p G G9)
        ⟨[], pool, d3, c3, upd_same, by rw [upd_ne qf]; exact h8, rfl, rfl, .refl _, B3.same (same_more (Same.refl _) nf), by omega, K3.trans (KeepP.of (same_more (Same.refl _) nf))⟩ ?_ ?_
      · rintro i G9 hi ⟨fo, po, d9, c9, hf, hq, fl, pl, pm, B9, e9, K9⟩
        have hi' : i < 29 + n := by omega
        refine ⟨rfl, _, rfl, .inl ⟨rfl, _, SqL.of hq⟩, _, rfl, _, rfl, q, _, rfl, .inl (SqL.of hq), p, d9, sd, c9, _, rfl, B9, ?_, small ?_, by omega, fun r d' c' Hx r0 r1 cx Bx kx => ?_⟩
        · rw [List.length_map]
          omega
        · rw [List.length_map]
          omega
        rw [List.length_map] at r1
        obtain ⟨kk, rfl⟩ : ∃ kk : Nat, r = (kk : Int) := ⟨r.toNat, by omega⟩
        have hk : kk < po.length := by omega
        obtain ⟨x, hx⟩ : ∃ x, po[kk]? = some x := ⟨_, List.getElem?_eq_getElem hk⟩
        have hqx := kx _ _ hq qp
        have hfx := kx _ _ hf fp
        refine ⟨q, _, _, kk, .str x, rfl, rfl, hqx, by omega, by omega, ?_, ?_, ?_⟩
        · rw [List.length_map]
          exact seqIndex_nat hk
        · rw [List.getElem?_map, hx]
          rfl
        refine ⟨_, by rw [upd_ne qf.symm]; exact hfx, by rw [List.length_map]; omega, fo ++ [x], po.eraseIdx kk, d', c', ?_, ?_, ?_, ?_, ?_, ⟨by rw [upd_ne fp.symm, upd_ne qp.symm]; exact Bx.at_, Bx.d0, Bx.s0, Bx.s1, Bx.c0⟩, by omega, fun u o e nu => ?_⟩
        · rw [upd_same, List.map_append]
          rfl
        · rw [upd_ne qf, upd_same, erase_map]
        · rw [List.length_append, fl]
          rfl
        · rw [List.length_eraseIdx, if_pos hk]
          omega
        · refine .trans ?_ pm
          rw [List.append_assoc]
          exact List.Perm.append_left _ (erase_perm hx)
        · have uf : u ≠ f := fun z => by
            rw [z, nfG] at e
            cases e
          have uq : u ≠ q := fun z => by
            rw [z, nq] at e
            cases e
          rw [upd_ne uf, upd_ne uq]
          exact kx _ _ (K9 u o e nu) nu
      · rintro G9 ⟨fo, po, d9, c9, hf, hq, fl, pl, pm, B9, e9, K9⟩
        have fl' : fo.length = 29 + n := by omega
        have g := (good.perm pm).left
        exact ⟨f, fo, d9, c9, rfl, hf, fl', g, B9, by omega, K9⟩
    rintro τ G9 ⟨f, fo, d9, c9, rfl, hf, fl', g, B9, e9, K9⟩
    obtain ⟨hun, hh⟩ : ∃ hun, fo[28]? = some hun := ⟨_, List.getElem?_eq_getElem (by omega)⟩
    have K9' := K1.trans K9
    have free9 : ∀ {x : Addr}, G9 x = none → H x = none := fun {x} nn => K9'.free ⟨_, B9.at_⟩ nn
    refine ⟨_, rfl, _, rfl, f, _, rfl, SqL.of hf, fun a1 n1 => ?_⟩
    have s1 := same_more (x := .lst (cutV (fo.map V.str) none (some 20))) (Same.refl G9) n1
    have h1 : upd G9 a1 (.lst (cutV (fo.map V.str) none (some 20))) a1 = some (.lst ((fo.take 20).map V.str)) := upd_same.trans (congrArg (fun z => some (HO.lst z)) (cut_a (k := 20) (by omega)))
    generalize upd G9 a1 (.lst (cutV (fo.map V.str) none (some 20))) = I1 at s1 h1
    refine ⟨_, rfl, _, rfl, _, rfl, f, _, rfl, SqL.of (s1 _ _ hf), fun a2 n2 => ?_⟩
    have s2' := same_more (x := .lst (cutV (fo.map V.str) (some 20) (some 28))) s1 n2
    have h2 : upd I1 a2 (.lst (cutV (fo.map V.str) (some 20) (some 28))) a2 = some (.lst (((fo.drop 20).take 8).map V.str)) := upd_same.trans (congrArg (fun z => some (HO.lst z)) (cut_b (k := 20) (j := 28) (by omega) (by omega)))
    have h1' := upd_keep (x := .lst (cutV (fo.map V.str) (some 20) (some 28))) h1 n2
    have d12 : a1 ≠ a2 := ne_of_none h1 n2
    have m2 := Same.free s1 n2
    generalize upd I1 a2 (.lst (cutV (fo.map V.str) (some 20) (some 28))) = I2 at s2' h2 h1'
    refine ⟨_, rfl, f, _, _, _, rfl, rfl, SqL.of (s2' _ _ hf), atI_nat (j := 28) (v := .str hun) (by rw [List.getElem?_map, hh]; rfl), ?_⟩
    refine ⟨_, rfl, _, rfl, f, _, rfl, SqL.of (s2' _ _ hf), fun a3 n3 => ?_⟩
    have s3' := same_more (x := .lst (cutV (fo.map V.str) (some 29) none)) s2' n3
    have h3 : upd I2 a3 (.lst (cutV (fo.map V.str) (some 29) none)) a3 = some (.lst ((fo.drop 29).map V.str)) := upd_same.trans (congrArg (fun z => some (HO.lst z)) (cut_c (k := 29) (by omega)))
    have h1'' := upd_keep (x := .lst (cutV (fo.map V.str) (some 29) none)) h1' n3
    have h2'' := upd_keep (x := .lst (cutV (fo.map V.str) (some 29) none)) h2 n3
    have d13 : a1 ≠ a3 := ne_of_none h1' n3
    have d23 : a2 ≠ a3 := ne_of_none h2 n3
    have m3 := Same.free s2' n3
    generalize upd I2 a3 (.lst (cutV (fo.map V.str) (some 29) none)) = I3 at s3' h3 h1'' h2''
    refine ⟨by show 4 ≤ sizeLine; decide, fun t nt => ?_⟩
    refine k t a1 a2 a3 (fo.take 20) ((fo.drop 20).take 8) hun (fo.drop 29) d9 c9 _ ⟨free9 (Same.free s3' nt), free9 n1, free9 m2, free9 m3, d12, d13, d23, ⟨upd_same, upd_keep h1'' nt, upd_keep h2'' nt, upd_keep h3 nt⟩, ?_, ?_, ?_⟩ ?_ (B9.same (same_more s3' nt)) (by omega) (K9'.trans (KeepP.of (same_more s3' nt)))
    · rw [List.length_take]
      omega
    · rw [List.length_take, List.length_drop]
      omega
    · rw [row_of hh]
      exact g
    · rw [List.length_drop]
      omega
end
end LB
set_option Elab.async false
set_option linter.all false
set_option maxRecDepth 100000
set_option maxHeartbeats 4000000
/-! Family D: the kind of a caught error. -/
namespace LB
open PySem L2 Wk
def kindD : Nat → Str
  | 0 => "table"
  | 1 => "number"
  | 2 => "words"
  | 3 => "range"
  | 4 => "undo"
  | _ => "read"
def spKindD (cs : List Addr) : Sp := fun vs H Q _ => ∃ (a : Addr) (i : Nat) (C : Addr) (v : V), vs = [.ref a] ∧ cs[i]? = some C ∧ i < 6 ∧ Caught H C a v ∧ ∀ H' : Hp, Same H H' → Q (.str (kindD i)) H'
section
variable {P : Program} {w : World} {K : PySem.W.Frag} {mg : Str → Option Value} {base : Heap}
end
end LB
set_option Elab.async false
set_option linter.all false
set_option maxRecDepth 100000
set_option maxHeartbeats 4000000
/-! Family D: tables with a wrong word. -/
namespace LB
open PySem L2 Wk
theorem fb_at {a b : List Str} {x : Str} (nd : a.Nodup) (g : ∀ y ∈ a, GoodWord y) (hx : x ∈ a ∨ goodB x = false) : firstBad [] (a ++ x :: b) = some (.str x) := by
  rw [firstBad_split a [] (x :: b) (firstBad_good (by rw [List.nil_append]; exact nd) g), List.nil_append, firstBad_cons, if_pos hx]
theorem fault_of {ones tens : List Str} {hun : Str} {scales : List Str} (h1 : ones.length = 20) (h2 : tens.length = 8) : fault ones tens hun scales = firstBad [] (ones ++ (tens ++ hun :: scales)) := by
  unfold fault
  rw [if_neg]
  rintro (h | h)
  · exact h h1
  · exact h h2
theorem set_split {l : List Str} {i : Nat} {x : Str} (h : i < l.length) : l.set i x = l.take i ++ x :: l.drop (i + 1) := List.set_eq_take_append_cons_drop.trans (if_pos h)
def spBadBook : Sp := fun vs H Q _ => ∃ (p t : Addr) (d s c : Int) (o te sc : Addr) (ones tens : List Str) (hun : Str) (scales : List Str), vs = [.ref p, .ref t] ∧ RngAtD H p d s c ∧ c < 2 ^ 29 ∧ TabAt H t ones tens hun scales o te sc ∧
  ones.length = 20 ∧ tens.length = 8 ∧ scales.length ≤ 20 ∧ GoodRow (ones ++ (tens ++ hun :: scales)) ∧
  ∀ (L t2 o2 te2 sc2 : Addr) (ones2 tens2 : List Str) (hun2 : Str) (scales2 : List Str) (bad : V) (d' c' : Int) (H' : Hp), H L = none → H' L = some (.lst [.ref t2, bad]) → H t2 = none → TabAt H' t2 ones2 tens2 hun2 scales2 o2 te2 sc2 →
    ones2.length ≤ 20 → tens2.length ≤ 9 → scales2.length ≤ 21 → (∀ x ∈ ones2 ++ (tens2 ++ hun2 :: scales2), tame x = true) → fault ones2 tens2 hun2 scales2 = some bad → RngAtD H' p d' s c' → c' ≤ c + 10 → KeepP p H H' → Q (.ref L) H'
theorem K5' {p : Addr} {H G I : Hp} (k : KeepP p H G) (s : Same G I) : KeepP p H I := k.trans (KeepP.of s)
theorem ixN_of {n k : Nat} (h : k < n) : ixN n (k : Int) = some k := by
  unfold ixN
  rw [if_pos (by omega), if_pos (by omega), Int.toNat_natCast]
def badsD : List Str := ["", "Two", "a b", "x1", ⟨(List.replicate (21 : Int).toNat ("q" : Str).cps).foldl (· ++ ·) #[]⟩, "-"]
theorem badsD_ok : ∀ x ∈ badsD, goodB x = false ∧ tame x = true := by decide +kernel
section
variable {P : Program} {w : World} {K : PySem.W.Frag} {mg : Str → Option Value} {base : Heap}
end
end LB
set_option Elab.async false
set_option linter.all false
set_option maxRecDepth 100000
set_option maxHeartbeats 4000000
/-! The program's own: a word more behind a beginning, all words that may come. -/
namespace LB
open PySem L2 Wk
open Bg (Bg Wo)
/-- the vocabulary in its order, as the program holds it -/
def VocAt (H : Hp) (l : Addr) (vs : List (Addr × Str × Wo)) : Prop := H l = some (.lst (vs.map fun z => V.ref z.1)) ∧ ∀ z ∈ vs, H z.1 = some (.tup [.str z.2.1, .int z.2.2.val])
theorem VocAt.same {H H' : Hp} {l : Addr} {vs : List (Addr × Str × Wo)} (h : VocAt H l vs) (s : Same H H') : VocAt H' l vs := ⟨s _ _ h.1, fun z hz => s _ _ (h.2 z hz)⟩
def ascW (l : List (Str × Wo)) : Prop := l.Pairwise fun e f => WkI.ltS e.1 f.1 = true
def spVocab : Sp := fun vs H Q _ => ∃ (t o te sc : Addr) (ones tens : List Str) (hun : Str) (scales : List Str), vs = [.ref t] ∧ TabAt H t ones tens hun scales o te sc ∧ ones.length ≤ 100 ∧ tens.length ≤ 100 ∧ scales.length ≤ 500 ∧
  (ones ++ (tens ++ hun :: scales)).Nodup ∧ ∀ l vz H', H l = none → Same H H' → VocAt H' l vz → (∀ z ∈ vz, H z.1 = none) → (vz.map (·.2)).Perm (voc ones tens hun scales) → ascW (vz.map (·.2)) → Q (.ref l) H'
def spStart (K : PySem.W.Frag) : Sp := fun vs H Q _ => ∃ (t o te sc : Addr) (ones tens : List Str) (hun : Str) (scales : List Str), vs = [.ref t] ∧ TabAt H t ones tens hun scales o te sc ∧ scales.length ≤ 900 ∧
  ∀ p H', H p = none → Same H H' → SqT K H' p (BgV (Bg.start scales.length)) → Q (.ref p) H'
def spFol (K : PySem.W.Frag) : Sp := fun vs H Q _ => ∃ (p : Addr) (b : Bg) (x : Wo), vs = [.ref p, .int x.val] ∧ SqT K H p (BgV b) ∧ Bg.Ok b ∧ Bg.WOk x ∧
  (Bg.fol b x = none → Q .non H) ∧ ∀ c, Bg.fol b x = some c → ∀ q H', Same H H' → SqT K H' q (BgV c) → Q (.ref q) H'
def stepsOf (b : Bg) (ws : List (Str × Wo)) : List (Str × Bg) := ws.filterMap fun e => (Bg.fol b e.2).map fun c => (e.1, c)
def StAt (K : PySem.W.Frag) (H : Hp) (l : Addr) (cs : List (Addr × Str × Addr × Bg)) : Prop := H l = some (.lst (cs.map fun c => V.ref c.1)) ∧ ∀ c ∈ cs, H c.1 = some (.tup [.str c.2.1, .ref c.2.2.1]) ∧ SqT K H c.2.2.1 (BgV c.2.2.2)
theorem StAt.same {K : PySem.W.Frag} {H H' : Hp} {l : Addr} {cs : List (Addr × Str × Addr × Bg)} (h : StAt K H l cs) (s : Same H H') : StAt K H' l cs := ⟨s _ _ h.1, fun c hc => ⟨s _ _ (h.2 c hc).1, s.tp (h.2 c hc).2⟩⟩
def pairS (c : Addr × Str × Addr × Bg) : Str × Bg := (c.2.1, c.2.2.2)
def spSteps (K : PySem.W.Frag) : Sp := fun vs H Q _ => ∃ (p : Addr) (b : Bg) (l : Addr) (vz : List (Addr × Str × Wo)), vs = [.ref p, .ref l] ∧ SqT K H p (BgV b) ∧ Bg.Ok b ∧ VocAt H l vz ∧ vz.length ≤ 1000 ∧ (∀ z ∈ vz, Bg.WOk z.2.2) ∧
  ∀ q cs H', H q = none → Same H H' → StAt K H' q cs → cs.map pairS = stepsOf b (vz.map (·.2)) → Q (.ref q) H'
theorem limit_W (scales : List Str) : limitOf scales = Bg.W (scales.length + 1) := by
  rw [Bg.W_succ]
  rfl
/-- a tuple of beginnings under a list that grows -/
theorem _root_.L2.SqT.grow {K : PySem.W.Frag} {H : Hp} {a l : Addr} {xs ys zs : List V} (h : SqT K H a xs) (hl : H l = some (.lst ys)) : SqT K (upd H l (.lst zs)) a xs := by
  have ne : ∀ o, H a = some o → (∀ w, o ≠ .lst w) → a ≠ l := fun o e n z => by
    rw [z, hl] at e
    cases e
    exact n ys rfl
  rcases h with (h | ⟨o, h⟩) | h
  · exact .inl (.inl (by rw [upd_ne (ne _ h fun w z => by cases z)]; exact h))
  · exact .inl (.inr ⟨o, by rw [upd_ne (ne _ h fun w z => by cases z)]; exact h⟩)
  · exact .inr h
section
variable {P : Program} {w : World} {K : PySem.W.Frag} {mg : Str → Option Value} {base : Heap}
theorem scVocab : FnScope ["table", "meanings"] ["table"] (defScope sVocab) := ⟨rfl, rfl, rfl, by decide +kernel, rfl, by decide +kernel, by decide +kernel⟩
theorem ok_vocab {f fW : Addr} {fd dW : FuncData} (F : Fun K "vocabulary" "vocabulary" sVocab f fd) (DW : Def1 P w K mg base "worths" 1 fW dW ["table"] spWorths) (mS : mg "sorted" = none) : FnOk P w K mg base CX0 2 f fd ["table"] spVocab := by
  refine F.ok scVocab (fun vs H Q E h => ?_) (fun cdv A outer s H vs Q E hr h => ?_)
  · obtain ⟨t, o, te, sc, ones, tens, hun, scales, rfl, _⟩ := h
    rfl
  · obtain ⟨t, o, te, sc, ones, tens, hun, scales, rfl, TA, l1, l2, l3, nd, k⟩ := h
    refine ⟨_, pss_cons (ps_set (i := 1) scVocab.nd rfl (.inl rfl) (pe_call DW.ok hr (by rfl) DW.g DW.k DW.b .nil pass0 (pa_cons (pv 0) pa_nil)))
      (pss_one (ps_ret (pe_callB (WkI.cr_sortedItK rfl) (by rfl) mS (by decide +kernel) (pa_cons (pe_bm0 PySem.F.plainAttrs_dict PySem.F.slot_dict_items PySem.F.type_dict_items WkI.mt_itemsK (pv 1)) pa_nil)))), ?_⟩
    refine ⟨_, rfl, t, o, te, sc, ones, tens, hun, scales, rfl, TA, l1, l2, l3, nd, fun p H1 np s1 hp => ?_⟩
    refine ⟨_, rfl, .inr (.inr (.inl ⟨rfl, .inl ⟨_, hp⟩⟩)), p, _, rfl, rfl, hp, fun v nv => ?_⟩
    have s2 : Same H1 (upd H1 v (L2.DX.itemsO v p)) := same_new nv
    have n1 : H v = none := s1.free nv
    rw [entW_is] at hp
    refine ⟨v, p, (voc ones tens hun scales).map entI, rfl, upd_same, s2 _ _ hp, ?_, fun H3 l ps s3 nl hperm hasc hl hps => ?_⟩
    · rw [List.length_map, voc_len]
      omega
    obtain ⟨zs, pz, ez⟩ := perm_lift entI hperm (voc ones tens hun scales) rfl
    have ez' : zs.map entI = ps.map (·.2) := ez
    have lz : zs.length = ps.length := by
      have := congrArg List.length ez'
      rw [List.length_map, List.length_map] at this
      exact this
    let vz : List (Addr × Str × Wo) := (ps.map (·.1)).zip zs
    have v1 : vz.map (·.1) = ps.map (·.1) := List.map_fst_zip (by rw [List.length_map, lz]; exact Nat.le_refl _)
    have v2 : vz.map (·.2) = zs := List.map_snd_zip (by rw [List.length_map, lz]; exact Nat.le_refl _)
    have fine : ∀ z ∈ vz, H z.1 = none ∧ H3 z.1 = some (.tup [.str z.2.1, .int z.2.2.val]) := by
      intro z hz
      obtain ⟨j, hj⟩ := List.mem_iff_getElem?.mp hz
      obtain ⟨j1, j2⟩ := List.getElem?_zip_eq_some.mp hj
      have e := congrArg (fun l => l[j]?) ez'
      simp only [List.getElem?_map] at e
      rw [j2] at e
      rw [List.getElem?_map] at j1
      cases hpj : ps[j]? with
      | none =>
        rw [hpj] at j1
        cases j1
      | some y =>
        rw [hpj] at e j1
        have e1 : y.1 = z.1 := Option.some.inj j1
        have e2 : entI z.2 = y.2 := Option.some.inj e
        obtain ⟨y1, y2⟩ := hps y (List.mem_of_getElem? hpj)
        rw [e1, ← e2] at y2
        rw [e1] at y1
        exact ⟨s1.free (s2.free y1), y2⟩
    refine k l vz H3 (s1.free (s2.free nl)) (s1.trans (s2.trans s3)) ⟨?_, fun z hz => (fine z hz).2⟩ (fun z hz => (fine z hz).1) ?_ ?_
    · rw [hl, show (fun z : Addr × Str × Wo => V.ref z.1) = V.ref ∘ Prod.fst from rfl, ← List.map_map, v1, List.map_map]
      rfl
    · rw [v2]
      exact pz
    · rw [v2]
      rw [← ez', List.pairwise_map] at hasc
      exact hasc
theorem scStart : FnScope ["table"] ["table"] (defScope sStart) := ⟨rfl, rfl, rfl, by decide +kernel, rfl, by decide +kernel, by decide +kernel⟩
theorem ok_start {f fT : Addr} {fd dT : FuncData} (F : Fun K "start" "start" sStart f fd) (DT : Def1 P w K mg base "top_of" 1 fT dT ["table"] spTopOf) : FnOk P w K mg base CX0 2 f fd ["table"] (spStart K) := by
  refine F.ok scStart (fun vs H Q E h => ?_) (fun cdv A outer s H vs Q E hr h => ?_)
  · obtain ⟨t, o, te, sc, ones, tens, hun, scales, rfl, _⟩ := h
    rfl
  · obtain ⟨t, o, te, sc, ones, tens, hun, scales, rfl, TA, l3, k⟩ := h
    refine ⟨_, pss_one (ps_ret (pe_tup (pa_cons pe_int (pa_cons pe_int (pa_cons pe_int (pa_cons (pe_call DT.ok hr (by rfl) DT.g DT.k DT.b .nil pass0 (pa_cons (pv 0) pa_nil)) pa_nil)))))), ?_⟩
    refine ⟨_, rfl, t, o, te, sc, ones, tens, hun, scales, rfl, TA, l3, by show 4 ≤ sizeLine; decide, fun p np => k p _ np (same_new np) (SqT.of ?_)⟩
    rw [upd_same, limit_W]
    rfl
theorem scFollowed : FnScope ["beginning", "worth", "total", "group", "room", "top"] ["beginning", "worth"] (defScope sFollowed) := ⟨rfl, rfl, rfl, by decide +kernel, rfl, by decide +kernel, by decide +kernel⟩
theorem int_dec {a b : Int} : decide (V.int a = V.int b) = decide (a = b) := decide_eq_decide.mpr ⟨fun z => V.int.inj z, fun z => by rw [z]⟩
theorem ok_followed {f fH Z : Addr} {fd dH : FuncData} (F : Fun K "followed" "followed" sFollowed f fd) (DH : Def1 P w K mg base "_has_words" 1 fH dH ["beginning"] (spHas K)) (gZ : mg "ZERO" = some (.ref Z)) (hZ : ∀ H, SqT K H Z (BgV Bg.zero)) :
    FnOk P w K mg base CX0 2 f fd ["beginning", "worth"] (spFol K) := by
  refine F.ok scFollowed (fun vs H Q E h => ?_) (fun cdv A outer s H vs Q E hr h => ?_)
  · obtain ⟨p, b, x, rfl, _⟩ := h
    rfl
  · obtain ⟨p, b, x, rfl, hb, ok, hx, kN, kS⟩ := h
    have bd := ok.bnd
    refine ⟨_, pss_cons (ps_asg (pv 0) (pg_tup (by rfl) (pgs_cons (pg_name (i := 2) scFollowed.nd rfl (.inl rfl)) (pgs_cons (pg_name (i := 3) scFollowed.nd rfl (.inl rfl)) (pgs_cons (pg_name (i := 4) scFollowed.nd rfl (.inl rfl)) (pgs_cons (pg_name (i := 5) scFollowed.nd rfl (.inl rfl)) pgs_nil))))))
      (pss_cons (ps_if (pt_cmpR op_eq (pv 1) pe_int (nomark _)) (pss_one (ps_ret (pe_ifExp (pt_val (pe_call DH.ok hr (by rfl) DH.g DH.k DH.b .nil pass0 (pa_cons (pv 0) pa_nil))) pe_non (pe_glob (v := .ref Z) rfl gZ rfl)))) pss_nil)
      (pss_cons (ps_if (pt_cmpR op_gt (pv 1) pe_int (nomark _)) (pss_one (ps_ret (pe_ifExp (PW.pt (pw_and (pt_cmpR op_gt (pv 3) pe_int (nomark _)) (pw_and1 (pt_cmpR op_lt (pv 1) (pv 5) (nomark _)))))
        (pe_tup (pa_cons (pe_op op_add (pv 2) (pe_op op_mul (pv 3) (pv 1))) (pa_cons pe_int (pa_cons pe_int (pa_cons (pv 1) pa_nil))))) pe_non))) pss_nil)
      (pss_cons (ps_if (pt_cmpR op_eq (pv 1) pe_int (nomark _)) (pss_one (ps_ret (pe_ifExp (pt_chain op_lt op_lt pe_int (pv 3) pe_int)
        (pe_tup (pa_cons (pv 2) (pa_cons (pe_op op_mul (pv 3) pe_int) (pa_cons pe_int (pa_cons (pv 5) pa_nil))))) pe_non))) pss_nil)
      (pss_cons (ps_if (pt_cmpR op_ge (pv 1) pe_int (nomark _)) (pss_one (ps_ret (pe_ifExp (pt_cmpR op_eq (pv 4) pe_int (nomark _))
        (pe_tup (pa_cons (pv 2) (pa_cons (pe_op op_add (pv 3) (pv 1)) (pa_cons (pe_ifExp (pt_cmpR op_ge (pv 1) pe_int (nomark _)) pe_int pe_int) (pa_cons (pv 5) pa_nil))))) pe_non))) pss_nil)
      (pss_one (ps_ret (pe_ifExp (pt_cmpR op_ge (pv 4) pe_int (nomark _)) (pe_tup (pa_cons (pv 2) (pa_cons (pe_op op_add (pv 3) (pv 1)) (pa_cons pe_int (pa_cons (pv 5) pa_nil))))) pe_non))))))), ?_⟩
    refine ⟨_, rfl, p, _, rfl, hb, rfl, _, _, rfl, _, _, rfl, _, _, rfl, _, _, rfl, rfl, ?_⟩
    have four : ∀ {c : Bg}, Bg.fol b x = some c → ([V.int c.t, V.int c.g, V.int c.r, V.int (Bg.W c.m)]).length ≤ sizeLine ∧ ∀ q, H q = none → Q (.ref q) (upd H q (.tup [.int c.t, .int c.g, .int c.r, .int (Bg.W c.m)])) := fun {c} e =>
      ⟨by show 4 ≤ sizeLine; decide, fun q nq => kS c e q _ (same_new nq) (SqT.of upd_same)⟩
    have end_ : ∀ {c : Prop} [Decidable c] {y : Bg}, (Bg.fol b x = if c then some y else none) → (¬ c → Q V.non H) := fun {c _ y} e n => kN (by rw [e, if_neg n])
    have got : ∀ {c : Prop} [Decidable c] {y : Bg}, (Bg.fol b x = if c then some y else none) → c → Bg.fol b x = some y := fun {c _ y} e n => by rw [e, if_pos n]
    refine ⟨_, rfl, rfl, _, rfl, ite2 (fun c0 => ?_) (fun c0 => ?_)⟩
    · -- the word of 0
      have v0 : x.val = 0 := V.int.inj (of_decide_eq_true c0)
      obtain rfl : x = .low 0 := by
        cases x with
        | low n => exact congrArg Wo.low v0
        | hun => exact absurd (show (100 : Int) = 0 from v0) (by decide)
        | sc i =>
          have h1 : Bg.W (i + 1) = 0 := v0
          have := Bg.W_pos (i + 1)
          omega
      have e : Bg.fol b (.low 0) = if Bg.has b = true then none else some Bg.zero := by
        unfold Bg.fol
        rfl
      refine ⟨_, rfl, p, b, rfl, hb, _, rfl, ?_⟩
      cases hh : Bg.has b with
      | true => exact iteT (kN (by rw [e, hh]; rfl))
      | false => exact iteF (kS Bg.zero (by rw [e, hh]; rfl) Z H (Same.refl _) (hZ H))
    have v0 : x.val ≠ 0 := fun z => c0 (decide_eq_true (by rw [z]))
    refine ⟨_, rfl, _, _, rfl, rfl, _, rfl, ite2 (fun c1 => ?_) (fun c1 => ?_)⟩
    · -- a scale word
      have v1 : x.val > 100 := of_decide_eq_true c1
      obtain ⟨i, rfl⟩ : ∃ i, x = .sc i := by
        cases x with
        | low n =>
          have v1' : n > 100 := v1
          rcases hx with hx | ⟨k, k2, k9, rfl⟩ <;> omega
        | hun => exact absurd (show (100 : Int) > 100 from v1) (by decide)
        | sc i => exact ⟨i, rfl⟩
      have e : Bg.fol b (.sc i) = if b.g > 0 ∧ i + 1 < b.m then some ⟨b.t + b.g * Bg.W (i + 1), 0, 100, i + 1⟩ else none := rfl
      refine ⟨_, rfl, _, _, rfl, rfl, _, rfl, ite2 (fun d => ?_) (fun d => ?_)⟩
      · refine ⟨_, rfl, _, rfl, _, _, rfl, rfl, _, rfl, ite2 (fun d2 => ?_) (fun d2 => ?_)⟩
        · have g := got e ⟨of_decide_eq_true d, Bg.W_inj.mp (of_decide_eq_true d2)⟩
          exact ⟨_, rfl, _, rfl, _, rfl, _, _, rfl, rfl, .inl ⟨by omega, by omega⟩, _, _, rfl, rfl, _, rfl, four g⟩
        · exact end_ e fun z => d2 (decide_eq_true (Bg.W_inj.mpr z.2))
      · exact iteF (end_ e fun z => d (decide_eq_true z.1))
    have v1 : ¬ x.val > 100 := fun z => c1 (decide_eq_true z)
    refine ⟨_, rfl, rfl, _, rfl, ite2 (fun c2 => ?_) (fun c2 => ?_)⟩
    · have v2 : x.val = 100 := V.int.inj (of_decide_eq_true c2)
      obtain rfl : x = .hun := by
        cases x with
        | low n =>
          have v2' : n = 100 := v2
          rcases hx with hx | ⟨k, k2, k9, rfl⟩ <;> omega
        | hun => rfl
        | sc i =>
          have h1 : Bg.W (i + 1) = 100 := v2
          have := Bg.W_pos i
          rw [Bg.W_succ] at h1
          omega
      have e : Bg.fol b .hun = if 0 < b.g ∧ b.g < 10 then some ⟨b.t, b.g * 100, 100, b.m⟩ else none := rfl
      refine ⟨_, rfl, _, _, rfl, rfl, _, rfl, ite2 (fun d => ?_) (fun d => ?_)⟩
      · refine ⟨_, _, rfl, rfl, _, rfl, ite2 (fun d2 => ?_) (fun d2 => ?_)⟩
        · have g := got e ⟨of_decide_eq_true d, of_decide_eq_true d2⟩
          exact ⟨_, rfl, _, rfl, _, _, rfl, rfl, .inl ⟨by omega, by omega⟩, _, rfl, four g⟩
        · exact end_ e fun z => d2 (decide_eq_true z.2)
      · exact ⟨_, rfl, iteF (end_ e fun z => d (decide_eq_true z.1))⟩
    have v2 : x.val ≠ 100 := fun z => c2 (decide_eq_true (by rw [z]))
    obtain ⟨n, rfl⟩ : ∃ n, x = .low n := by
      cases x with
      | low n => exact ⟨n, rfl⟩
      | hun => exact absurd rfl v2
      | sc i =>
        have := Bg.W_pos i
        have h1 : ¬ Bg.W (i + 1) > 100 := v1
        rw [Bg.W_succ] at h1
        omega
    have n0 : n ≠ 0 := v0
    refine ⟨_, rfl, _, _, rfl, rfl, _, rfl, ite2 (fun c3 => ?_) (fun c3 => ?_)⟩
    · have n10 : n ≥ 10 := of_decide_eq_true c3
      have e : Bg.fol b (.low n) = if b.r = 100 then some ⟨b.t, b.g + n, if n ≥ 20 then 10 else 1, b.m⟩ else none := by
        unfold Bg.fol
        simp only
        rw [if_neg n0, if_pos n10]
      refine ⟨_, rfl, rfl, _, rfl, ite2 (fun d => ?_) (fun d => ?_)⟩
      · have g := got e (V.int.inj (of_decide_eq_true d))
        refine ⟨_, rfl, _, rfl, _, rfl, _, _, rfl, rfl, _, rfl, _, _, rfl, rfl, _, rfl, ?_⟩
        have f4 := four g
        refine ite2 (fun d2 => ?_) (fun d2 => ?_)
        · have z : n ≥ 20 := of_decide_eq_true d2
          simp only [if_pos z] at f4
          exact ⟨_, rfl, f4⟩
        · have z : ¬ n ≥ 20 := fun q => d2 (decide_eq_true q)
          simp only [if_neg z] at f4
          exact ⟨_, rfl, f4⟩
      · exact end_ e fun z => d (decide_eq_true (by rw [z]))
    · have n10 : ¬ n ≥ 10 := fun q => c3 (decide_eq_true q)
      have e : Bg.fol b (.low n) = if b.r ≥ 10 then some ⟨b.t, b.g + n, 1, b.m⟩ else none := by
        unfold Bg.fol
        simp only
        rw [if_neg n0, if_neg n10]
      refine ⟨_, rfl, _, _, rfl, rfl, _, rfl, ite2 (fun d => ?_) (fun d => ?_)⟩
      · have g := got e (of_decide_eq_true d)
        exact ⟨_, rfl, _, rfl, _, rfl, _, _, rfl, rfl, _, rfl, four g⟩
      · exact end_ e fun z => d (decide_eq_true z)
theorem stepsOf_snoc (b : Bg) (l : List (Str × Wo)) (x : Str × Wo) : stepsOf b (l ++ [x]) = stepsOf b l ++ (match Bg.fol b x.2 with | none => [] | some c => [(x.1, c)]) := by
  unfold stepsOf
  rw [List.filterMap_append]
  congr 1
  cases h : Bg.fol b x.2 with
  | none => simp [h]
  | some c => simp [h]
theorem scSteps : FnScope ["beginning", "words", "found", "word", "worth", "longer"] ["beginning", "words"] (defScope sSteps) := ⟨rfl, rfl, rfl, by decide +kernel, rfl, by decide +kernel, by decide +kernel⟩
theorem ok_steps {f fF : Addr} {fd dF : FuncData} (F : Fun K "steps" "steps" sSteps f fd) (DF : Def1 P w K mg base "followed" 2 fF dF ["beginning", "worth"] (spFol K)) : FnOk P w K mg base CX0 3 f fd ["beginning", "words"] (spSteps K) := by
  refine F.ok scSteps (fun vs H Q E h => ?_) (fun cdv A outer s H vs Q E hr h => ?_)
  · obtain ⟨p, b, l, vz, rfl, _⟩ := h
    rfl
  · obtain ⟨p, b, l, vz, rfl, hb, ok, hv, hl, hw, k⟩ := h
    refine ⟨_, pss_cons (ps_set (i := 2) scSteps.nd rfl (.inl rfl) (pe_lst pa_nil))
      (pss_cons (ps_for PassesOwn.never rfl (pi_list (pv 1)) (pg_tup (by rfl) (pgs_cons (pg_name (i := 3) scSteps.nd rfl (.inl rfl)) (pgs_cons (pg_name (i := 4) scSteps.nd rfl (.inl rfl)) pgs_nil)))
        (pss_cons (ps_set (i := 5) scSteps.nd rfl (.inl rfl) (pe_call DF.ok hr (by rfl) DF.g DF.k DF.b .nil pass0 (pa_cons (pv 0) (pa_cons (pv 4) pa_nil))))
        (pss_one (ps_if (pt_cmp (pc_notN (pv 5))) (pss_one (ps_expr (pe_bm PySem.F.plainAttrs_list PySem.F.slot_list_append PySem.F.type_list_append mt_append (pv 2) (pa_cons (pe_tup (pa_cons (pv 3) (pa_cons (pv 5) pa_nil))) pa_nil)))) pss_nil))))
      (pss_one (ps_ret (pv 2)))), ?_⟩
    refine ⟨Nat.zero_le _, fun q nq => ?_⟩
    have big : 1000 ≤ sizeLine := by decide
    refine ⟨_, rfl, l, rfl, ⟨_, SqL.of ((same_new nq) _ _ hv.1)⟩, for_list (K := K) (a := l) (xs := vz.map fun z => V.ref z.1)
      (fun i σ G => ∃ (x y z : Option V) (cs : List (Addr × Str × Addr × Bg)), σ = [some (.ref p), some (.ref l), some (.ref q), x, y, z] ∧ Same H G ∧ StAt K G q cs ∧ cs.map pairS = stepsOf b ((vz.take i).map (·.2))) ?_ ?_ ?_ ?_⟩
    · exact ⟨none, none, none, [], rfl, same_new nq, ⟨upd_same, fun c hc => nomatch hc⟩, rfl⟩
    · rintro i σ G _ ⟨_, _, _, _, _, s1, _⟩
      exact SqL.of (s1 _ _ hv.1)
    · rintro i y σ G hi ⟨x, y2, z, cs, rfl, s1, hst, ec⟩
      obtain ⟨e, he, rfl⟩ : ∃ e, vz[i]? = some e ∧ y = V.ref e.1 := by
        rw [List.getElem?_map] at hi
        cases h : vz[i]? with
        | none =>
          rw [h] at hi
          cases hi
        | some e =>
          rw [h] at hi
          exact ⟨e, rfl, (Option.some.inj hi).symm⟩
      have il := (List.getElem?_eq_some_iff.mp he).1
      have hm := List.mem_of_getElem? he
      have lc : cs.length ≤ i := by
        have h1 := congrArg List.length ec
        rw [List.length_map] at h1
        have h2 : (stepsOf b ((vz.take i).map (·.2))).length ≤ ((vz.take i).map (·.2)).length := List.length_filterMap_le ..
        rw [List.length_map, List.length_take] at h2
        omega
      refine ⟨e.1, _, rfl, SqT.of (s1 _ _ (hv.2 e hm)), rfl, _, _, rfl, _, _, rfl, rfl, ?_⟩
      have more : stepsOf b ((vz.take (i + 1)).map (·.2)) = stepsOf b ((vz.take i).map (·.2)) ++ (match Bg.fol b e.2.2 with | none => [] | some c => [(e.2.1, c)]) := by
        rw [List.take_add_one, he, List.map_append]
        exact stepsOf_snoc b _ e.2
      refine ⟨_, rfl, _, rfl, p, b, e.2.2, rfl, s1.tp hb, ok, hw e hm, fun no => ?_, fun c hc r G2 s2 hr2 => ?_⟩
      · refine ⟨_, rfl, _, rfl, ite2 (fun z => absurd z (by simp)) (fun _ => ?_)⟩
        refine ⟨_, _, _, cs, rfl, s1, hst, ?_⟩
        rw [more, no, List.append_nil]
        exact ec
      · refine ⟨_, rfl, _, rfl, ite2 (fun _ => ?_) (fun z => absurd (by simp) z)⟩
        have st2 := hst.same s2
        refine ⟨_, rfl, .inl ⟨rfl, _, SqL.of st2.1⟩, _, rfl, _, rfl, by show 2 ≤ sizeLine; decide, fun T nT => ?_⟩
        have s3 : Same G2 (upd G2 T (.tup [.str e.2.1, .ref r])) := same_new nT
        have st3 := st2.same s3
        refine ⟨q, _, _, rfl, rfl, st3.1, by rw [List.length_map]; omega, ?_⟩
        refine ⟨_, _, _, cs ++ [(T, e.2.1, r, c)], rfl, fun b' o' e' => ?_, ⟨?_, fun c' hc' => ?_⟩, ?_⟩
        · rw [upd_ne (ne_of_none e' nq)]
          exact s3 _ _ (s2 _ _ (s1 _ _ e'))
        · rw [upd_same, List.map_append]
          rfl
        · have ne : ∀ {d : Addr} {xs : List V}, upd G2 T (.tup [.str e.2.1, .ref r]) d = some (.tup xs) → d ≠ q := fun h z => by
            rw [z, st3.1] at h
            cases h
          rcases List.mem_append.mp hc' with h | h
          · obtain ⟨h1, h2⟩ := st3.2 c' h
            exact ⟨by rw [upd_ne (ne h1)]; exact h1, h2.grow st3.1⟩
          · rw [List.mem_singleton.mp h]
            refine ⟨?_, (s3.tp hr2).grow st3.1⟩
            rw [upd_ne (ne upd_same)]
            exact upd_same
        · rw [more, hc, List.map_append, ec]
          rfl
    · rintro σ G ⟨x, y, z, cs, rfl, s1, hst, ec⟩
      rw [List.length_map, List.take_length] at ec
      exact ⟨_, rfl, k q cs G nq s1 hst ec⟩
end
end LB
set_option Elab.async false
set_option linter.all false
set_option maxRecDepth 100000
set_option maxHeartbeats 4000000
/-! The words of a number, as a list of worths. -/
namespace Bg
/-- the group of three digits at place i -/
def gr (n : Int) (i : Nat) : Int := n / W i % 1000
theorem gr_bnd (n : Int) (i : Nat) : 0 ≤ gr n i ∧ gr n i ≤ 999 := by
  unfold gr
  have := Int.emod_nonneg (n / W i) (show (1000 : Int) ≠ 0 by decide)
  have := Int.emod_lt_of_pos (n / W i) (show (0 : Int) < 1000 by decide)
  omega
theorem div_succ (n : Int) (i : Nat) : n / W i / 1000 = n / W (i + 1) := by
  rw [W_succ, Int.mul_comm, Int.ediv_ediv_of_nonneg (Int.le_of_lt (W_pos i))]
def groupW (g : Int) : List Wo := (if g / 100 > 0 then [.low (g / 100), .hun] else []) ++ (if g % 100 ≥ 20 then .low (10 * (g % 100 / 10)) :: (if g % 100 % 10 > 0 then [.low (g % 100 % 10)] else []) else if g % 100 > 0 then [.low (g % 100)] else [])
/-- the words of the group at place i -/
def partW (n : Int) (i : Nat) : List Wo := if gr n i > 0 then groupW (gr n i) ++ (if i > 0 then [.sc (i - 1)] else []) else []
/-- the words of the k lowest groups, the highest first -/
def spW (n : Int) : Nat → List Wo
  | 0 => []
  | k + 1 => partW n k ++ spW n k
def nameW (n : Int) (k : Nat) : List Wo := if n = 0 then [.low 0] else spW n k
theorem div_zero {n : Int} {i j : Nat} (h0 : 0 ≤ n) (h : n < W i) (hj : i ≤ j) : n / W j = 0 := Int.ediv_eq_zero_of_lt h0 (Int.lt_of_lt_of_le h (W_le hj))
theorem spW_top {n : Int} {i : Nat} (h0 : 0 ≤ n) (h : n < W i) : ∀ k, spW n (i + k) = spW n i
  | 0 => rfl
  | k + 1 => by
    show partW n (i + k) ++ spW n (i + k) = spW n i
    rw [spW_top h0 h k]
    unfold partW gr
    rw [div_zero h0 h (Nat.le_add_right i k)]
    rfl
theorem spW_any {n : Int} {i k : Nat} (h0 : 0 ≤ n) (h : n < W i) (hk : i ≤ k) : spW n k = spW n i := by
  obtain ⟨d, rfl⟩ := Nat.exists_eq_add_of_le hk
  exact spW_top h0 h d
/-- what the program has put together behind j groups from the highest one -/
def accW (n : Int) (i : Nat) : Nat → List Wo
  | 0 => []
  | j + 1 => accW n i j ++ partW n (i - 1 - j)
theorem accW_spW (n : Int) (i : Nat) : ∀ j, j ≤ i → accW n i j ++ spW n (i - j) = spW n i
  | 0, _ => rfl
  | j + 1, h => by
    have e : i - j = (i - 1 - j) + 1 := by omega
    have ih := accW_spW n i j (by omega)
    rw [e] at ih
    show (accW n i j ++ partW n (i - 1 - j)) ++ spW n (i - (j + 1)) = _
    rw [show i - (j + 1) = i - 1 - j by omega, List.append_assoc]
    exact ih
theorem accW_all (n : Int) (i : Nat) : accW n i i = spW n i := by
  have h := accW_spW n i i (Nat.le_refl _)
  rw [Nat.sub_self] at h
  show accW n i i = _
  rw [← h]
  show _ = accW n i i ++ []
  rw [List.append_nil]
theorem groupW_len {g : Int} : (groupW g).length ≤ 4 := by
  unfold groupW
  rw [List.length_append]
  have a : (if g / 100 > 0 then [Wo.low (g / 100), Wo.hun] else []).length ≤ 2 := by split <;> simp
  have b : (if g % 100 ≥ 20 then Wo.low (10 * (g % 100 / 10)) :: (if g % 100 % 10 > 0 then [Wo.low (g % 100 % 10)] else []) else if g % 100 > 0 then [Wo.low (g % 100)] else []).length ≤ 2 := by
    repeat' split
    all_goals simp
  omega
theorem partW_len (n : Int) (i : Nat) : (partW n i).length ≤ 5 := by
  unfold partW
  split
  · rw [List.length_append]
    have := @groupW_len (gr n i)
    have b : (if i > 0 then [Wo.sc (i - 1)] else []).length ≤ 1 := by split <;> simp
    omega
  · simp
theorem accW_len (n : Int) (i : Nat) : ∀ j, (accW n i j).length ≤ 5 * j
  | 0 => Nat.le_refl _
  | j + 1 => by
    show (accW n i j ++ partW n (i - 1 - j)).length ≤ _
    rw [List.length_append]
    have := accW_len n i j
    have := partW_len n (i - 1 - j)
    omega
end Bg
set_option Elab.async false
set_option linter.all false
set_option maxRecDepth 100000
set_option maxHeartbeats 4000000
/-! The program's own: the words of a number. -/
namespace LB
open PySem L2 Wk
open Bg (Bg Wo)
def wd (ones tens : List Str) (hun : Str) (scales : List Str) : Wo → Str
  | .low n => if n < 20 then (ones[n.toNat]?).getD hun else (tens[(n / 10 - 2).toNat]?).getD hun
  | .hun => hun
  | .sc i => (scales[i]?).getD hun
theorem wd_one {ones tens : List Str} {hun : Str} {scales : List Str} {n : Int} (l : ones.length = 20) (h0 : 0 ≤ n) (h1 : n < 20) : atI (ones.map V.str) n = some (.str (wd ones tens hun scales (.low n))) := by
  obtain ⟨k, rfl⟩ : ∃ k : Nat, n = (k : Int) := ⟨n.toNat, by omega⟩
  have hk : k < ones.length := by omega
  refine atI_nat ?_
  unfold wd
  simp only
  rw [if_pos h1, Int.toNat_natCast, List.getElem?_map, List.getElem?_eq_getElem hk]
  rfl
theorem wd_ten {ones tens : List Str} {hun : Str} {scales : List Str} {k : Int} (l : tens.length = 8) (h0 : 2 ≤ k) (h1 : k ≤ 9) : atI (tens.map V.str) (k - 2) = some (.str (wd ones tens hun scales (.low (10 * k)))) := by
  obtain ⟨j, hj⟩ : ∃ j : Nat, k - 2 = (j : Int) := ⟨(k - 2).toNat, by omega⟩
  have hk : j < tens.length := by omega
  rw [hj]
  refine atI_nat ?_
  unfold wd
  simp only
  rw [if_neg (by omega), show 10 * k / 10 - 2 = (j : Int) by omega, Int.toNat_natCast, List.getElem?_map, List.getElem?_eq_getElem hk]
  rfl
theorem wd_sc {ones tens : List Str} {hun : Str} {scales : List Str} {i : Nat} (h : i < scales.length) : atI (scales.map V.str) (i : Int) = some (.str (wd ones tens hun scales (.sc i))) := by
  refine atI_nat ?_
  unfold wd
  simp only
  rw [List.getElem?_map, List.getElem?_eq_getElem h]
  rfl
def spGroups : Sp := fun vs H Q _ => ∃ (n : Int) (k : Nat), vs = [.int n] ∧ 0 ≤ n ∧ n < Bg.W k ∧ k ≤ 100 ∧
  ∀ (p : Addr) (i : Nat) (H' : Hp), H p = none → Same H H' → i ≤ k → n < Bg.W i → (0 < i → Bg.W (i - 1) ≤ n) → H' p = some (.lst ((List.range i).map fun j => V.int (Bg.gr n j))) → Q (.ref p) H'
def spGW : Sp := fun vs H Q _ => ∃ (t o te sc : Addr) (ones tens : List Str) (hun : Str) (scales : List Str) (g : Int), vs = [.ref t, .int g] ∧ TabAt H t ones tens hun scales o te sc ∧ ones.length = 20 ∧ tens.length = 8 ∧ 0 ≤ g ∧ g ≤ 999 ∧
  ∀ p H', H p = none → Same H H' → H' p = some (.lst (((Bg.groupW g).map (wd ones tens hun scales)).map V.str)) → Q (.ref p) H'
def spSpelled : Sp := fun vs H Q _ => ∃ (t o te sc : Addr) (ones tens : List Str) (hun : Str) (scales : List Str) (n : Int), vs = [.ref t, .int n] ∧ TabAt H t ones tens hun scales o te sc ∧ ones.length = 20 ∧ tens.length = 8 ∧ scales.length ≤ 90 ∧
  0 ≤ n ∧ n < Bg.W (scales.length + 1) ∧ ∀ p H', H p = none → Same H H' → H' p = some (.lst (((Bg.nameW n (scales.length + 1)).map (wd ones tens hun scales)).map V.str)) → Q (.ref p) H'
section
variable {P : Program} {w : World} {K : PySem.W.Frag} {mg : Str → Option Value} {base : Heap}
theorem scGroups : FnScope ["number", "groups", "rest", "group"] ["number"] (defScope sGroupsOf) := ⟨rfl, rfl, rfl, by decide +kernel, rfl, by decide +kernel, by decide +kernel⟩
theorem ok_groups {f : Addr} {fd : FuncData} (F : Fun K "groups_of" "groups_of" sGroupsOf f fd) (mD : mg "divmod" = none) : FnOk P w K mg base CX0 1 f fd ["number"] spGroups := by
  refine F.ok scGroups (fun vs H Q E h => ?_) (fun cdv A outer s H vs Q E hr h => ?_)
  · obtain ⟨n, k, rfl, _⟩ := h
    rfl
  · obtain ⟨n, k, rfl, n0, n1, hk, kk⟩ := h
    refine ⟨_, pss_cons (ps_set (i := 1) scGroups.nd rfl (.inl rfl) (pe_lst pa_nil))
      (pss_cons (ps_set (i := 2) scGroups.nd rfl (.inl rfl) (pv 0))
      (pss_cons (ps_while PassesOwn.never (pt_cmpR op_gt (pv 2) pe_int (nomark _))
        (pss_cons (ps_asg (pe_callB call_divmod (by rfl) mD (by decide +kernel) (pa_cons (pv 2) (pa_cons pe_int pa_nil))) (pg_tup (by rfl) (pgs_cons (pg_name (i := 2) scGroups.nd rfl (.inl rfl)) (pgs_cons (pg_name (i := 3) scGroups.nd rfl (.inl rfl)) pgs_nil))))
        (pss_one (ps_expr (pe_bm PySem.F.plainAttrs_list PySem.F.slot_list_append PySem.F.type_list_append mt_append (pv 1) (pa_cons (pv 3) pa_nil))))))
      (pss_one (ps_ret (pv 1))))), ?_⟩
    refine ⟨Nat.zero_le _, fun p np => ⟨_, rfl, ?_⟩⟩
    have big : 1000 < sizeLine := by decide
    refine while_by (fun σ G => ∃ (i : Nat) (x : Option V), σ = [some (.int n), some (.ref p), some (.int (n / Bg.W i)), x] ∧ i ≤ k ∧ (0 < i → Bg.W (i - 1) ≤ n) ∧ Same H G ∧ G p = some (.lst ((List.range i).map fun j => V.int (Bg.gr n j))))
      (fun σ _ => match σ with | [_, _, some (.int x), _] => x.toNat | _ => 0) ⟨0, none, ?_, Nat.zero_le _, fun h => absurd h (by decide), same_new np, upd_same⟩ ?_ ?_
    · rw [show Bg.W 0 = 1 from rfl, Int.ediv_one]
      rfl
    · rintro σ G ⟨i, x, rfl, ik, wi, s1, hp⟩
      refine ⟨_, rfl, _, _, rfl, rfl, _, rfl, ite2 (fun c => ?_) (fun c => ?_)⟩
      · have pos : n / Bg.W i > 0 := of_decide_eq_true c
        have wn : Bg.W i ≤ n := by
          rcases Int.lt_or_le n (Bg.W i) with z | z
          · rw [Int.ediv_eq_zero_of_lt n0 z] at pos
            omega
          · exact z
        have ik' : i < k := by
          rcases Nat.lt_or_ge i k with z | z
          · exact z
          · have := Bg.W_le z
            omega
        refine ⟨_, rfl, _, _, rfl, ⟨by decide, by decide⟩, fun T nT => ⟨T, _, rfl, SqT.of upd_same, rfl, _, _, rfl, _, _, rfl, rfl, ?_⟩⟩
        have s2 : Same G (upd G T (.tup [.int (n / Bg.W i / 1000), .int (n / Bg.W i % 1000)])) := same_new nT
        refine ⟨_, rfl, .inl ⟨rfl, _, SqL.of (s2 _ _ hp)⟩, _, rfl, p, _, _, rfl, rfl, s2 _ _ hp, ?_, ⟨i + 1, some (.int (n / Bg.W i % 1000)), by rw [← Bg.div_succ]; rfl, ik', fun _ => wn, fun b o e => ?_, ?_⟩, ?_⟩
        · rw [List.length_map, List.length_range]
          omega
        · rw [upd_ne (ne_of_none e np)]
          exact s2 _ _ (s1 _ _ e)
        · rw [upd_same, List.range_succ, List.map_append]
          rfl
        · show (n / Bg.W i / 1000).toNat < (n / Bg.W i).toNat
          omega
      · have zero : ¬ n / Bg.W i > 0 := fun z => c (decide_eq_true z)
        have lt : n < Bg.W i := by
          rcases Int.lt_or_le n (Bg.W i) with z | z
          · exact z
          · have : 1 ≤ n / Bg.W i := (Int.le_ediv_iff_mul_le (Bg.W_pos i)).mpr (by omega)
            omega
        exact ⟨_, rfl, kk p i G np s1 ik lt wi hp⟩
    · rintro σ G Q1 Q2 m ⟨x1, h1, i, j, hi, hj, y, hy, q⟩
      exact ⟨x1, h1, i, j, hi, hj, y, hy, m _ _ q⟩
theorem scGW : FnScope ["table", "group", "ones", "tens", "hundred", "_", "words", "hundreds", "ending"] ["table", "group"] (defScope sGroupWords) := ⟨rfl, rfl, rfl, by decide +kernel, rfl, by decide +kernel, by decide +kernel⟩
theorem ok_groupWords {f : Addr} {fd : FuncData} (F : Fun K "_group_words" "_group_words" sGroupWords f fd) (mD : mg "divmod" = none) : FnOk P w K mg base CX0 1 f fd ["table", "group"] spGW := by
  refine F.ok scGW (fun vs H Q E h => ?_) (fun cdv A outer s H vs Q E hr h => ?_)
  · obtain ⟨t, o, te, sc, ones, tens, hun, scales, g, rfl, _⟩ := h
    rfl
  · obtain ⟨t, o, te, sc, ones, tens, hun, scales, g, rfl, TA, l1, l2, g0, g1, k⟩ := h
    refine ⟨_, pss_cons (ps_asg (pv 0) (pg_tup (by rfl) (pgs_cons (pg_name (i := 2) scGW.nd rfl (.inl rfl)) (pgs_cons (pg_name (i := 3) scGW.nd rfl (.inl rfl)) (pgs_cons (pg_name (i := 4) scGW.nd rfl (.inl rfl)) (pgs_cons (pg_name (i := 5) scGW.nd rfl (.inl rfl)) pgs_nil))))))
      (pss_cons (ps_set (i := 6) scGW.nd rfl (.inl rfl) (pe_lst pa_nil))
      (pss_cons (ps_asg (pe_callB call_divmod (by rfl) mD (by decide +kernel) (pa_cons (pv 1) (pa_cons pe_int pa_nil))) (pg_tup (by rfl) (pgs_cons (pg_name (i := 7) scGW.nd rfl (.inl rfl)) (pgs_cons (pg_name (i := 8) scGW.nd rfl (.inl rfl)) pgs_nil))))
      (pss_mid (ps_if (pt_cmpR op_gt (pv 7) pe_int (nomark _))
        (pss_cons (ps_expr (pe_bm PySem.F.plainAttrs_list PySem.F.slot_list_append PySem.F.type_list_append mt_append (pv 6) (pa_cons (pe_ix ix_list (pv 2) (pv 7) (fun _ _ => rfl)) pa_nil)))
        (pss_one (ps_expr (pe_bm PySem.F.plainAttrs_list PySem.F.slot_list_append PySem.F.type_list_append mt_append (pv 6) (pa_cons (pv 4) pa_nil))))) pss_nil)
      (pss_mid (ps_if (pt_cmpR op_ge (pv 8) pe_int (nomark _))
        (pss_cons (ps_expr (pe_bm PySem.F.plainAttrs_list PySem.F.slot_list_append PySem.F.type_list_append mt_append (pv 6) (pa_cons (pe_ix ix_list (pv 3) (pe_op op_sub (pe_op op_fdiv (pv 8) pe_int) pe_int) (fun _ _ => rfl)) pa_nil)))
        (pss_one (ps_set (i := 8) scGW.nd rfl (.inl rfl) (pe_op op_mod (pv 8) pe_int)))) pss_nil)
      (pss_mid (ps_if (pt_cmpR op_gt (pv 8) pe_int (nomark _))
        (pss_one (ps_expr (pe_bm PySem.F.plainAttrs_list PySem.F.slot_list_append PySem.F.type_list_append mt_append (pv 6) (pa_cons (pe_ix ix_list (pv 2) (pv 8) (fun _ _ => rfl)) pa_nil)))) pss_nil)
      (pss_one (ps_ret (pv 6)))))))), ?_⟩
    refine ⟨_, rfl, t, _, rfl, SqT.of TA.tup, rfl, _, _, rfl, _, _, rfl, _, _, rfl, _, _, rfl, rfl, ?_⟩
    refine ⟨Nat.zero_le _, fun p np => ?_⟩
    have s1 : Same H (upd H p (.lst [])) := same_new np
    refine ⟨_, rfl, _, _, rfl, ⟨by decide, by decide⟩, fun T nT => ⟨T, _, rfl, SqT.of upd_same, rfl, _, _, rfl, _, _, rfl, rfl, ?_⟩⟩
    have s2 := s1.trans (same_new (x := .tup [.int (g / 100), .int (g % 100)]) nT)
    have pT : p ≠ T := ne_of_none upd_same nT
    have big : 10 < sizeLine := by decide
    generalize hw : wd ones tens hun scales = f at k
    have f1 : ∀ {n : Int}, 0 ≤ n → n < 20 → atI (ones.map V.str) n = some (.str (f (.low n))) := fun h0 h1 => by rw [← hw]; exact wd_one l1 h0 h1
    have f2 : ∀ {k : Int}, 2 ≤ k → k ≤ 9 → atI (tens.map V.str) (k - 2) = some (.str (f (.low (10 * k)))) := fun h0 h1 => by rw [← hw]; exact wd_ten l2 h0 h1
    have f3 : hun = f .hun := by rw [← hw]; rfl
    -- the state: what p holds
    let St : List Wo → Int → L2.St → Hp → Prop := fun ws e τ G => τ = [some (.ref t), some (.int g), some (.ref o), some (.ref te), some (.str hun), some (.ref sc), some (.ref p), some (.int (g / 100)), some (.int e)] ∧ G p = some (.lst ((ws.map f).map V.str)) ∧ Same H G
    have put : ∀ {ws : List Wo} {G : Hp} {x : Wo}, G p = some (.lst ((ws.map f).map V.str)) → Same H G → (upd G p (.lst ((ws.map f).map V.str ++ [.str (f x)]))) p = some (.lst (((ws ++ [x]).map f).map V.str)) ∧ Same H (upd G p (.lst ((ws.map f).map V.str ++ [.str (f x)]))) := fun {ws G x} h s => by
      refine ⟨?_, fun b o e => ?_⟩
      · rw [upd_same, List.map_append, List.map_append]
        rfl
      · rw [upd_ne (ne_of_none e np)]
        exact s _ _ e
    refine ⟨St (if g / 100 > 0 then [.low (g / 100), .hun] else []) (g % 100), ?_, ?_⟩
    · refine ⟨_, rfl, _, _, rfl, rfl, _, rfl, ite2 (fun c => ?_) (fun c => ?_)⟩
      · have c' : g / 100 > 0 := of_decide_eq_true c
        have hp0 : upd (upd H p (.lst [])) T (.tup [.int (g / 100), .int (g % 100)]) p = some (.lst ((([] : List Wo).map f).map V.str)) := by
          rw [upd_ne pT, upd_same]
          rfl
        obtain ⟨p1, p2⟩ := put (x := .low (g / 100)) hp0 s2
        refine ⟨_, rfl, .inl ⟨rfl, _, SqL.of hp0⟩, _, rfl, _, rfl, o, _, _, _, rfl, rfl, SqL.of (s2 _ _ TA.lo), f1 (by omega) (by omega), p, _, _, rfl, rfl, hp0, by show 0 < sizeLine; omega, ?_⟩
        obtain ⟨p3, p4⟩ := put (x := .hun) p1 p2
        refine ⟨_, rfl, .inl ⟨rfl, _, SqL.of p1⟩, _, rfl, p, _, _, rfl, rfl, p1, by show 1 < sizeLine; omega, rfl, ?_, ?_⟩
        · rw [if_pos c']
          rw [f3]
          exact p3
        · rw [f3]
          exact p4
      · have c' : ¬ g / 100 > 0 := fun z => c (decide_eq_true z)
        refine ⟨rfl, ?_, s2⟩
        rw [if_neg c', upd_ne pT, upd_same]
        rfl
    rintro τ G ⟨rfl, hp1, s3⟩
    refine ⟨St ((if g / 100 > 0 then [.low (g / 100), .hun] else []) ++ (if g % 100 ≥ 20 then [.low (10 * (g % 100 / 10))] else [])) (if g % 100 ≥ 20 then g % 100 % 10 else g % 100), ?_, ?_⟩
    · refine ⟨_, rfl, _, _, rfl, rfl, _, rfl, ite2 (fun c => ?_) (fun c => ?_)⟩
      · have c' : g % 100 ≥ 20 := of_decide_eq_true c
        obtain ⟨p1, p2⟩ := put (x := .low (10 * (g % 100 / 10))) hp1 s3
        refine ⟨_, rfl, .inl ⟨rfl, _, SqL.of hp1⟩, _, rfl, _, rfl, _, _, rfl, rfl, ⟨by decide, by decide⟩, _, _, rfl, rfl, te, _, _, _, rfl, rfl, SqL.of (s3 _ _ TA.lt), f2 (by omega) (by omega), p, _, _, rfl, rfl, hp1, ?_, ?_⟩
        · rw [List.length_map, List.length_map]
          split <;> (show _ < sizeLine; simp; omega)
        · refine ⟨_, rfl, _, _, rfl, rfl, (by show (0 : Int) < 10; decide), ?_, ?_, ?_⟩
          · rw [if_pos c']
            rfl
          · rw [if_pos c']
            exact p1
          · exact p2
      · have c' : ¬ g % 100 ≥ 20 := fun z => c (decide_eq_true z)
        refine ⟨?_, ?_, s3⟩
        · rw [if_neg c']
        · rw [if_neg c', List.append_nil]
          exact hp1
    rintro τ G2 ⟨rfl, hp2, s4⟩
    have whole : Bg.groupW g = ((if g / 100 > 0 then [.low (g / 100), .hun] else []) ++ (if g % 100 ≥ 20 then [.low (10 * (g % 100 / 10))] else [])) ++ (if (if g % 100 ≥ 20 then g % 100 % 10 else g % 100) > 0 then [.low (if g % 100 ≥ 20 then g % 100 % 10 else g % 100)] else []) := by
      unfold Bg.groupW
      rw [List.append_assoc]
      congr 1
      by_cases z : g % 100 ≥ 20
      · rw [if_pos z, if_pos z, if_pos z]
        rfl
      · rw [if_neg z, if_neg z, if_neg z]
        rfl
    refine ⟨St (Bg.groupW g) (if g % 100 ≥ 20 then g % 100 % 10 else g % 100), ?_, ?_⟩
    · generalize he : (if g % 100 ≥ 20 then g % 100 % 10 else g % 100) = e at hp2 whole ⊢
      have e1 : 0 ≤ e ∧ e < 20 := by
        rw [← he]
        split <;> omega
      refine ⟨_, rfl, _, _, rfl, rfl, _, rfl, ite2 (fun c => ?_) (fun c => ?_)⟩
      · have c' : e > 0 := of_decide_eq_true c
        obtain ⟨p1, p2⟩ := put (x := .low e) hp2 s4
        refine ⟨_, rfl, .inl ⟨rfl, _, SqL.of hp2⟩, _, rfl, _, rfl, o, _, _, _, rfl, rfl, SqL.of (s4 _ _ TA.lo), f1 e1.1 e1.2, p, _, _, rfl, rfl, hp2, ?_, rfl, ?_, p2⟩
        · rw [List.length_map, List.length_map, List.length_append]
          have a1 : (if g / 100 > 0 then [Wo.low (g / 100), Wo.hun] else []).length ≤ 2 := by split <;> simp
          have a2 : (if g % 100 ≥ 20 then [Wo.low (10 * (g % 100 / 10))] else []).length ≤ 1 := by split <;> simp
          omega
        · rw [whole, if_pos c']
          exact p1
      · have c' : ¬ e > 0 := fun z => c (decide_eq_true z)
        refine ⟨rfl, ?_, s4⟩
        rw [whole, if_neg c', List.append_nil]
        exact hp2
    rintro τ G3 ⟨rfl, hp3, s5⟩
    exact ⟨_, rfl, k p G3 np s5 hp3⟩
theorem scSpelled : FnScope ["table", "number", "ones", "_", "scales", "groups", "words", "at"] ["table", "number"] (defScope sSpelled) := ⟨rfl, rfl, rfl, by decide +kernel, rfl, by decide +kernel, by decide +kernel⟩
theorem ok_spelled {f fG fW : Addr} {fd dG dW : FuncData} (F : Fun K "spelled" "spelled" sSpelled f fd) (DG : Def1 P w K mg base "groups_of" 1 fG dG ["number"] spGroups) (DW : Def1 P w K mg base "_group_words" 1 fW dW ["table", "group"] spGW)
    (mR : mg "reversed" = none) (mN : mg "range" = none) (mL : mg "len" = none) : FnOk P w K mg base CX0 2 f fd ["table", "number"] spSpelled := by
  refine F.ok scSpelled (fun vs H Q E h => ?_) (fun cdv A outer s H vs Q E hr h => ?_)
  · obtain ⟨t, o, te, sc, ones, tens, hun, scales, n, rfl, _⟩ := h
    rfl
  · obtain ⟨t, o, te, sc, ones, tens, hun, scales, n, rfl, TA, l1, l2, l3, n0, n1, k⟩ := h
    refine ⟨_, pss_cons (ps_asg (pv 0) (pg_tup (by rfl) (pgs_cons (pg_name (i := 2) scSpelled.nd rfl (.inl rfl)) (pgs_cons (pg_name (i := 3) scSpelled.nd rfl (.inl rfl)) (pgs_cons (pg_name (i := 3) scSpelled.nd rfl (.inl rfl)) (pgs_cons (pg_name (i := 4) scSpelled.nd rfl (.inl rfl)) pgs_nil))))))
      (pss_cons (ps_if (pt_cmpR op_eq (pv 1) pe_int (nomark _)) (pss_one (ps_ret (pe_lst (pa_cons (pe_ix ix_list (pv 2) pe_int (fun _ _ => rfl)) pa_nil)))) pss_nil)
      (pss_cons (ps_set (i := 5) scSpelled.nd rfl (.inl rfl) (pe_call DG.ok hr (by rfl) DG.g DG.k DG.b .nil pass0 (pa_cons (pv 1) pa_nil)))
      (pss_cons (ps_set (i := 6) scSpelled.nd rfl (.inl rfl) (pe_lst pa_nil))
      (pss_cons (ps_for PassesOwn.never rfl (pi_revR rfl mR (prg_1 rfl mN (pe_callB call_len_seq (by rfl) mL PySem.boot_len (pa_cons (pv 5) pa_nil)))) (pg_name (i := 7) scSpelled.nd rfl (.inl rfl))
        (pss_one (ps_if (pt_cmpR op_gt (pe_ix ix_list (pv 5) (pv 7) (fun _ _ => rfl)) pe_int (nomark _))
          (pss_cons (ps_expr (pe_bm PySem.F.plainAttrs_list PySem.F.slot_list_extend PySem.F.type_list_extend mt_extend (pv 6) (pa_cons (pe_call DW.ok hr (by rfl) DW.g DW.k DW.b .nil pass0 (pa_cons (pv 0) (pa_cons (pe_ix ix_list (pv 5) (pv 7) (fun _ _ => rfl)) pa_nil))) pa_nil)))
          (pss_one (ps_if (pt_cmpR op_gt (pv 7) pe_int (nomark _)) (pss_one (ps_expr (pe_bm PySem.F.plainAttrs_list PySem.F.slot_list_append PySem.F.type_list_append mt_append (pv 6) (pa_cons (pe_ix ix_list (pv 4) (pe_op op_sub (pv 7) pe_int) (fun _ _ => rfl)) pa_nil)))) pss_nil)))
          pss_nil)))
      (pss_one (ps_ret (pv 6))))))), ?_⟩
    refine ⟨_, rfl, t, _, rfl, SqT.of TA.tup, rfl, _, _, rfl, _, _, rfl, _, _, rfl, _, _, rfl, rfl, ?_⟩
    have big : 1000 < sizeLine := by decide
    refine ⟨_, rfl, rfl, _, rfl, ite2 (fun c => ?_) (fun c => ?_)⟩
    · have e : n = 0 := V.int.inj (of_decide_eq_true c)
      refine ⟨_, rfl, o, _, _, _, rfl, rfl, SqL.of TA.lo, wd_one (tens := tens) (hun := hun) (scales := scales) l1 (Int.le_refl 0) (by decide), by show 1 ≤ sizeLine; omega, fun p np => k p _ np (same_new np) ?_⟩
      rw [upd_same, e]
      rfl
    have hn : n ≠ 0 := fun z => c (decide_eq_true (by rw [z]))
    refine ⟨_, rfl, n, scales.length + 1, rfl, n0, n1, by omega, fun q i H1 nq s1 il hi1 hi2 hq => ?_⟩
    refine ⟨Nat.zero_le _, fun p np => ?_⟩
    have s2 : Same H1 (upd H1 p (.lst [])) := same_new np
    refine ⟨_, rfl, q, _, rfl, .inl (SqL.of (s2 _ _ hq)), _, rfl, ?_⟩
    rw [List.length_map, List.length_range]
    have n_i : ((i : Int) - 0).toNat = i := by omega
    refine ⟨by omega, by omega, by omega, by omega, ?_⟩
    generalize hw : wd ones tens hun scales = f at k
    have pq : p ≠ q := (ne_of_none hq np).symm
    refine for_rangeC (lo := 0 + ((((i : Int) - 0).toNat : Nat) : Int) - 1) (c := -1) (n := ((i : Int) - 0).toNat) (fun j σ G => ∃ x : Option V, σ = [some (.ref t), some (.int n), some (.ref o), some (.str hun), some (.ref sc), some (.ref q), some (.ref p), x] ∧ Same H1 G ∧ G p = some (.lst (((Bg.accW n i j).map f).map V.str))) ⟨none, rfl, s2, upd_same⟩ ?_ ?_
    · rintro j σ G ji ⟨x, rfl, s3, hp⟩
      rw [n_i] at ji
      have ea : (0 + ((((i : Int) - 0).toNat : Nat) : Int) - 1 + (j : Nat) * (-1) : Int) = ((i - 1 - j : Nat) : Int) := by omega
      rw [ea]
      generalize hm : i - 1 - j = m
      have mi : m < i := by omega
      have at_ : atI ((List.range i).map fun j => V.int (Bg.gr n j)) (m : Int) = some (.int (Bg.gr n m)) := atI_nat (by rw [List.getElem?_map, List.getElem?_range mi]; rfl)
      obtain ⟨g0, g9⟩ := Bg.gr_bnd n m
      have la := Bg.accW_len n i j
      refine ⟨_, rfl, _, rfl, q, _, _, _, rfl, rfl, SqL.of (s3 _ _ hq), at_, _, _, rfl, rfl, _, rfl, ite2 (fun c1 => ?_) (fun c1 => ?_)⟩
      · have c1' : Bg.gr n m > 0 := of_decide_eq_true c1
        have TA3 : TabAt G t ones tens hun scales o te sc := ⟨s3 _ _ (s1 _ _ TA.tup), s3 _ _ (s1 _ _ TA.lo), s3 _ _ (s1 _ _ TA.lt), s3 _ _ (s1 _ _ TA.ls)⟩
        refine ⟨_, rfl, .inl ⟨rfl, _, SqL.of hp⟩, _, rfl, _, rfl, _, rfl, q, _, _, _, rfl, rfl, SqL.of (s3 _ _ hq), at_, t, o, te, sc, ones, tens, hun, scales, _, rfl, TA3, l1, l2, g0, g9, fun z G2 nz s4 hz => ?_⟩
        rw [hw] at hz
        have lg := @Bg.groupW_len (Bg.gr n m)
        refine ⟨p, z, _, _, rfl, rfl, s4 _ _ hp, hz, by rw [List.length_map, List.length_map, List.length_map, List.length_map]; omega, ?_⟩
        have s5 : ∀ {ys : List V}, Same H1 (upd G2 p (.lst ys)) := fun b o e => by
          rw [upd_ne (ne_of_none e np)]
          exact s4 _ _ (s3 _ _ e)
        have part : Bg.accW n i (j + 1) = Bg.accW n i j ++ (Bg.groupW (Bg.gr n m) ++ (if m > 0 then [.sc (m - 1)] else [])) := by
          show Bg.accW n i j ++ Bg.partW n (i - 1 - j) = _
          rw [hm]
          unfold Bg.partW
          rw [if_pos c1']
        refine ⟨_, rfl, _, _, rfl, rfl, _, rfl, ite2 (fun c2 => ?_) (fun c2 => ?_)⟩
        · have c2' : (m : Int) > 0 := of_decide_eq_true c2
          have em : (m : Int) - 1 = ((m - 1 : Nat) : Int) := by omega
          have ls3 : upd G2 p (.lst (((Bg.accW n i j).map f).map V.str ++ ((Bg.groupW (Bg.gr n m)).map f).map V.str)) sc = some (.lst (scales.map V.str)) := s5 _ _ (s1 _ _ TA.ls)
          refine ⟨_, rfl, .inl ⟨rfl, _, SqL.of upd_same⟩, _, rfl, _, rfl, _, _, rfl, rfl, sc, _, _, _, rfl, rfl, SqL.of ls3, by rw [em]; exact wd_sc (ones := ones) (tens := tens) (hun := hun) (by omega), p, _, _, rfl, rfl, upd_same, ?_, ?_⟩
          · rw [List.length_append, List.length_map, List.length_map, List.length_map, List.length_map]
            omega
          · refine ⟨_, rfl, fun b o e => ?_, ?_⟩
            · rw [upd_ne (ne_of_none e np)]
              exact s5 _ _ e
            · rw [upd_same, part, if_pos (by omega), hw]
              simp only [List.map_append, List.append_assoc]
              rfl
        · have c2' : ¬ (m : Int) > 0 := fun z => c2 (decide_eq_true z)
          refine ⟨_, rfl, s5, ?_⟩
          rw [upd_same, part, if_neg (by omega), List.append_nil, List.map_append, List.map_append]
      · have c1' : ¬ Bg.gr n m > 0 := fun z => c1 (decide_eq_true z)
        refine ⟨_, rfl, s3, ?_⟩
        rw [hp]
        show _ = some (HO.lst (((Bg.accW n i j ++ Bg.partW n (i - 1 - j)).map f).map V.str))
        rw [hm]
        unfold Bg.partW
        rw [if_neg c1', List.append_nil]
    · rintro σ G ⟨x, rfl, s3, hp⟩
      refine ⟨_, rfl, k p G (s1.free np) (s1.trans s3) ?_⟩
      rw [hp, n_i, Bg.accW_all]
      unfold Bg.nameW
      rw [if_neg hn, Bg.spW_any n0 hi1 il]
end
end LB
set_option Elab.async false
set_option linter.all false
set_option maxRecDepth 100000
set_option maxHeartbeats 4000000
/-! Family D: powers of 1000, the words of a number. -/
namespace LB
open PySem L2 Wk
open Bg (Bg Wo)
def spPower : Sp := fun vs H Q _ => ∃ n : Nat, vs = [.int (n : Int)] ∧ n ≤ 30 ∧ Q (.int (Bg.W n)) H
theorem W_big : ∀ n : Nat, n ≤ 30 → (Bg.W n).natAbs < 2 ^ 400 := by
  have h : ∀ n : Fin 31, (Bg.W n.1).natAbs < 2 ^ 400 := by decide +kernel
  exact fun n hn => h ⟨n, by omega⟩
def spWordsD : Sp := fun vs H Q _ => ∃ (t o te sc : Addr) (ones tens : List Str) (hun : Str) (scales : List Str) (n : Int), vs = [.ref t, .int n] ∧ TabAt H t ones tens hun scales o te sc ∧ ones.length = 20 ∧ tens.length = 8 ∧ scales.length ≤ 20 ∧ 0 ≤ n ∧ n < Bg.W (scales.length + 1) ∧
  ∀ p H', H p = none → Same H H' → H' p = some (.lst (((Bg.nameW n (scales.length + 1)).map (wd ones tens hun scales)).map V.str)) → Q (.ref p) H'
theorem parts4 {g : Int} {i : Nat} (g0 : 0 ≤ g) : (if g > 0 then Bg.groupW g ++ (if i > 0 then [Wo.sc (i - 1)] else []) else []) =
    (((if g / 100 > 0 then [Wo.low (g / 100), Wo.hun] else []) ++ (if 0 < g % 100 ∧ g % 100 < 20 then [Wo.low (g % 100)] else [])) ++ (if g % 100 > 19 then Wo.low (10 * (g % 100 / 10)) :: (if g % 100 % 10 > 0 then [Wo.low (g % 100 % 10)] else []) else [])) ++ (if g > 0 ∧ i > 0 then [Wo.sc (i - 1)] else []) := by
  by_cases a1 : g > 0
  · rw [if_pos a1]
    have d : (if g > 0 ∧ i > 0 then [Wo.sc (i - 1)] else []) = (if i > 0 then [Wo.sc (i - 1)] else []) := by
      by_cases h : i > 0
      · rw [if_pos h, if_pos ⟨a1, h⟩]
      · rw [if_neg h, if_neg fun z => h z.2]
    rw [d]
    unfold Bg.groupW
    refine congrArg (fun z => z ++ (if i > 0 then [Wo.sc (i - 1)] else [])) ?_
    rw [List.append_assoc]
    refine congrArg (fun z => (if g / 100 > 0 then [Wo.low (g / 100), Wo.hun] else []) ++ z) ?_
    by_cases r2 : g % 100 ≥ 20
    · rw [if_pos r2, if_neg (show ¬ (0 < g % 100 ∧ g % 100 < 20) from fun z => by omega), if_pos (show g % 100 > 19 by omega), List.nil_append]
    · rw [if_neg r2]
      by_cases r1 : g % 100 > 0
      · rw [if_pos r1, if_pos (show 0 < g % 100 ∧ g % 100 < 20 from ⟨r1, by omega⟩), if_neg (show ¬ g % 100 > 19 by omega), List.append_nil]
      · rw [if_neg r1, if_neg (show ¬ (0 < g % 100 ∧ g % 100 < 20) from fun z => r1 z.1), if_neg (show ¬ g % 100 > 19 by omega), List.append_nil]
  · have e : g = 0 := by omega
    subst e
    rw [if_neg a1, if_neg (by decide), if_neg (by decide), if_neg (by decide), if_neg (fun z => a1 z.1)]
    rfl
section
variable {P : Program} {w : World} {K : PySem.W.Frag} {mg : Str → Option Value} {base : Heap}
theorem scPower : FnScope ["many", "found", "turn"] ["many"] (defScope sPower) := ⟨rfl, rfl, rfl, by decide +kernel, rfl, by decide +kernel, by decide +kernel⟩
theorem ok_power {f : Addr} {fd : FuncData} (F : Fun K "_law_power" "_law_power" sPower f fd) (mR : mg "range" = none) : FnOk P w K mg base CX0 1 f fd ["many"] spPower := by
  refine F.ok scPower (fun vs H Q E h => ?_) (fun cdv A outer s H vs Q E hr h => ?_)
  · obtain ⟨n, rfl, _⟩ := h
    rfl
  · obtain ⟨n, rfl, n30, k⟩ := h
    refine ⟨_, pss_cons (ps_set (i := 1) scPower.nd rfl (.inl rfl) pe_int)
        (pss_cons (ps_for PassesOwn.never rfl (pi_range1 rfl mR (pa_cons (pv 0) pa_nil)) (pg_name (i := 2) scPower.nd rfl (.inl rfl)) (pss_one (ps_set (i := 1) scPower.nd rfl (.inl rfl) (pe_op op_mulW (pv 1) pe_int))))
        (pss_one (ps_ret (pv 1)))), ?_⟩
    refine ⟨_, rfl, (n : Int), rfl, by omega, by omega, for_range (lo := 0) (n := ((n : Nat) : Int).toNat) (fun i σ G => G = H ∧ ∃ x : Option V, σ = [some (.int (n : Int)), some (.int (Bg.W i)), x]) ⟨rfl, none, rfl⟩ ?_ ?_⟩
    · rintro i σ G hi ⟨rfl, x, rfl⟩
      have b := W_big i (by omega)
      refine ⟨_, rfl, _, _, rfl, rfl, wide_mul b (show (1000 : Int).natAbs < 2 ^ 10 by decide) (by decide) (by decide) (by decide), rfl, some (.int (0 + (i : Int))), ?_⟩
      rw [Bg.W_succ, Int.mul_comm]
      rfl
    · rintro σ G ⟨rfl, x, rfl⟩
      rw [Int.toNat_natCast]
      exact ⟨_, rfl, k⟩
end
end LB
set_option Elab.async false
set_option linter.all false
set_option maxRecDepth 100000
set_option maxHeartbeats 4000000
/-! Family D: drawn numbers. -/
namespace LB
open PySem L2 Wk
open Bg (Bg Wo)
def spValueD : Sp := fun vs H Q _ => ∃ (p t : Addr) (d s c : Int) (o te sc : Addr) (ones tens : List Str) (hun : Str) (scales : List Str), vs = [.ref p, .ref t] ∧ RngAtD H p d s c ∧ c < 2 ^ 29 ∧ TabAt H t ones tens hun scales o te sc ∧ scales.length ≤ 20 ∧
  ∀ (r d' c' : Int) (H' : Hp), 0 ≤ r → r < Bg.W (scales.length + 1) → RngAtD H' p d' s c' → c' ≤ c + 20 → KeepP p H H' → Q (.int r) H'
def spNumberD : Sp := fun vs H Q _ => ∃ (p t : Addr) (d s c : Int) (o te sc : Addr) (ones tens : List Str) (hun : Str) (scales : List Str), vs = [.ref p, .ref t] ∧ RngAtD H p d s c ∧ c < 2 ^ 28 ∧ TabAt H t ones tens hun scales o te sc ∧ scales.length ≤ 20 ∧
  ∀ (r d' c' : Int) (H' : Hp), r.natAbs < 2 ^ 500 → RngAtD H' p d' s c' → c' ≤ c + 30 → KeepP p H H' → Q (.int r) H'
theorem TabAt.keepP {p : Addr} {H G : Hp} {t o te sc : Addr} {d s c : Int} {ones tens : List Str} {hun : Str} {scales : List Str} (T : TabAt H t ones tens hun scales o te sc) (R : RngAtD H p d s c) (k : KeepP p H G) : TabAt G t ones tens hun scales o te sc := by
  have st : ∀ {q : Addr} {ws : List Str}, H q = some (.lst (ws.map V.str)) → q ≠ p := fun {q ws} e z => by
    rw [z, R.at_] at e
    have e := HO.lst.inj (Option.some.inj e)
    cases ws with
    | nil => cases e
    | cons x r => exact V.noConfusion (List.cons.inj e).1
  exact ⟨k _ _ T.tup fun z => (by have e := T.tup; rw [z, R.at_] at e; cases e), k _ _ T.lo (st T.lo), k _ _ T.lt (st T.lt), k _ _ T.ls (st T.ls)⟩
theorem pick4 {a b c d r : Int} (h0 : 0 ≤ r) (h1 : r < 4) : ∃ w, atI [V.int a, V.int b, V.int c, V.int d] r = some (.int w) := by
  rcases (show r = 0 ∨ r = 1 ∨ r = 2 ∨ r = 3 by omega) with rfl | rfl | rfl | rfl
  · exact ⟨a, rfl⟩
  · exact ⟨b, rfl⟩
  · exact ⟨c, rfl⟩
  · exact ⟨d, rfl⟩
theorem pick4i {a b c d r : Int} (h0 : 0 ≤ r) (h1 : r < 4) : ∃ w, atI [V.int a, V.int b, V.int c, V.int d] r = some (.int w) ∧ (w = a ∨ w = b ∨ w = c ∨ w = d) := by
  rcases (show r = 0 ∨ r = 1 ∨ r = 2 ∨ r = 3 by omega) with rfl | rfl | rfl | rfl
  · exact ⟨a, rfl, .inl rfl⟩
  · exact ⟨b, rfl, .inr (.inl rfl)⟩
  · exact ⟨c, rfl, .inr (.inr (.inl rfl))⟩
  · exact ⟨d, rfl, .inr (.inr (.inr rfl))⟩
section
variable {P : Program} {w : World} {K : PySem.W.Frag} {mg : Str → Option Value} {base : Heap}
theorem scValueD : FnScope ["pool", "book", "top", "way", "some", "turn"] ["pool", "book"] (defScope sValue) := ⟨rfl, rfl, rfl, by decide +kernel, rfl, by decide +kernel, by decide +kernel⟩
theorem ok_valueD {f fP fD : Addr} {fd dP dD : FuncData} (F : Fun K "_law_value" "_law_value" sValue f fd) (Pw : Def1 P w K mg base "_law_power" 1 fP dP ["many"] spPower) (D : Def1 P w K mg base "_law_draw" 1 fD dD ["pool", "many"] spDrawD)
    (mL : mg "len" = none) (mR : mg "range" = none) (mN : mg "min" = none) (mX : mg "max" = none) : FnOk P w K mg base CX0 2 f fd ["pool", "book"] spValueD := by
  refine F.ok scValueD (fun vs H Q E h => ?_) (fun cdv A outer s H vs Q E hr h => ?_)
  · obtain ⟨p, t, d, s, c, o, te, sc, ones, tens, hun, scales, rfl, _⟩ := h
    rfl
  · obtain ⟨p, t, d, sd, c, o, te, sc, ones, tens, hun, scales, rfl, R, c29, TA, l3, k⟩ := h
    have hr1 : Room 1 _ := hr
    refine ⟨_, pss_mid (ps_par (i := 2) (j := 3) (by rfl) scValueD.nd rfl rfl (by decide) rfl rfl (pa_cons (pe_call Pw.ok hr1 (by rfl) Pw.g Pw.k Pw.b .nil pass0 (pa_cons (pe_op op_add (pe_callB call_len_seq (by rfl) mL PySem.boot_len (pa_cons (pe_ix ix_tup (pv 1) pe_int (fun _ _ => rfl)) pa_nil)) pe_int) pa_nil)) (pa_cons (pe_call D.ok hr1 (by rfl) D.g D.k D.b .nil pass0 (pa_cons (pv 0) (pa_cons pe_int pa_nil))) pa_nil)) (by rfl))
        (pss_mid (ps_set (i := 4) scValueD.nd rfl (.inl rfl) (pe_lst (pa_cons (pe_call D.ok hr1 (by rfl) D.g D.k D.b .nil pass0 (pa_cons (pv 0) (pa_cons pe_int pa_nil))) (pa_cons (pe_call D.ok hr1 (by rfl) D.g D.k D.b .nil pass0 (pa_cons (pv 0) (pa_cons (pv 2) pa_nil))) (pa_cons pe_int (pa_cons (pe_call Pw.ok hr1 (by rfl) Pw.g Pw.k Pw.b .nil pass0 (pa_cons (pe_call D.ok hr1 (by rfl) D.g D.k D.b .nil pass0 (pa_cons (pv 0) (pa_cons (pe_op op_add (pe_callB call_len_seq (by rfl) mL PySem.boot_len (pa_cons (pe_ix ix_tup (pv 1) pe_int (fun _ _ => rfl)) pa_nil)) pe_int) pa_nil))) pa_nil)) pa_nil))))))
        (pss_mid (ps_for PassesOwn.never rfl (pi_range1 rfl mR (pa_cons (pe_op op_add pe_int (pe_call D.ok hr1 (by rfl) D.g D.k D.b .nil pass0 (pa_cons (pv 0) (pa_cons pe_int pa_nil)))) pa_nil)) (pg_name (i := 5) scValueD.nd rfl (.inl rfl)) (pss_one (ps_asg (pe_op op_add (pe_ix ix_list (pv 4) pe_int (fun _ _ => rfl)) (pe_op op_mulW (pe_call D.ok hr1 (by rfl) D.g D.k D.b .nil pass0 (pa_cons (pv 0) (pa_cons pe_int pa_nil))) (pe_call Pw.ok hr1 (by rfl) Pw.g Pw.k Pw.b .nil pass0 (pa_cons (pe_call D.ok hr1 (by rfl) D.g D.k D.b .nil pass0 (pa_cons (pv 0) (pa_cons (pe_op op_add (pe_callB call_len_seq (by rfl) mL PySem.boot_len (pa_cons (pe_ix ix_tup (pv 1) pe_int (fun _ _ => rfl)) pa_nil)) pe_int) pa_nil))) pa_nil)))) (pg_sub (pv 4) pe_int set_list))))
        (pss_one (ps_ret (pe_callB (call_min2 rfl) (by rfl) mN (by decide +kernel) (pa_cons (pe_op op_sub (pv 2) pe_int) (pa_cons (pe_callB (call_max2 rfl) (by rfl) mX (by decide +kernel) (pa_cons pe_int (pa_cons (pe_ix ix_list (pe_lst (pa_cons (pe_ix ix_list (pv 4) pe_int (fun _ _ => rfl)) (pa_cons (pe_ix ix_list (pv 4) pe_int (fun _ _ => rfl)) (pa_cons (pe_ix ix_list (pv 4) pe_int (fun _ _ => rfl)) (pa_cons (pe_op op_sub (pe_op op_add (pe_ix ix_list (pv 4) pe_int (fun _ _ => rfl)) (pe_call D.ok hr1 (by rfl) D.g D.k D.b .nil pass0 (pa_cons (pv 0) (pa_cons pe_int pa_nil)))) pe_int) pa_nil))))) (pv 3) (fun _ _ => rfl)) pa_nil))) pa_nil))))))), ?_⟩
    have small : ∀ {n : Nat}, n < 2 ^ 10 → n < 2 ^ 1000 := fun h => Nat.lt_of_lt_of_le h (Nat.pow_le_pow_right (by decide) (by decide))
    have mid : ∀ {n : Nat}, n < 2 ^ 400 → n < 2 ^ 1000 := fun h => Nat.lt_of_lt_of_le h (Nat.pow_le_pow_right (by decide) (by decide))
    have big : 3000 ≤ sizeLine := by decide
    have L1 : (((scales.map V.str).length : Nat) : Int) + 1 = ((scales.length + 1 : Nat) : Int) := by rw [List.length_map]; omega
    have Wp := Bg.W_pos (scales.length + 1)
    have Wb := W_big (scales.length + 1) (by omega)
    -- the number of scale words and one more, as it is asked for often
    refine ⟨fun τ G => ∃ (way d1 c1 : Int), τ = [some (.ref p), some (.ref t), some (.int (Bg.W (scales.length + 1))), some (.int way), none, none] ∧ 0 ≤ way ∧ way < 4 ∧ RngAtD G p d1 sd c1 ∧ c1 ≤ c + 1 ∧ KeepP p H G, ?_, ?_⟩
    · refine ⟨_, rfl, t, _, _, _, rfl, rfl, SqT.of TA.tup, rfl, sc, _, rfl, .inl (SqL.of TA.ls), _, _, rfl, rfl, scales.length + 1, congrArg (fun z => [V.int z]) L1, by omega, ?_⟩
      exact ⟨_, rfl, p, d, sd, c, 4, rfl, R, by decide, small (by decide), by omega, fun way d1 c1 G1 w0 w1 e1 R1 K1 => ⟨_, _, rfl, way, d1, c1, rfl, w0, w1, R1, by omega, K1⟩⟩
    rintro τ G1 ⟨way, d1, c1, rfl, w0, w1, R1, e1, K1⟩
    refine ⟨fun τ G => ∃ (S : Addr) (a b e d2 c2 : Int), τ = [some (.ref p), some (.ref t), some (.int (Bg.W (scales.length + 1))), some (.int way), some (.ref S), none] ∧ G S = some (.lst [.int a, .int b, .int 0, .int e]) ∧ H S = none ∧ RngAtD G p d2 sd c2 ∧ c2 ≤ c + 4 ∧ KeepP p H G, ?_, ?_⟩
    · refine ⟨_, rfl, p, d1, sd, c1, 1000, rfl, R1, by decide, small (by decide), by omega, fun a d2 c2 G2 _ _ e2 R2 K2 => ?_⟩
      refine ⟨_, rfl, _, rfl, p, d2, sd, c2, _, rfl, R2, Wp, mid Wb, by omega, fun b d3 c3 G3 _ _ e3 R3 K3 => ?_⟩
      have K13 := K1.trans (KeepP.trans K2 K3)
      have T3 := TA.keepP R K13
      refine ⟨_, rfl, _, rfl, t, _, _, _, rfl, rfl, SqT.of T3.tup, rfl, sc, _, rfl, .inl (SqL.of T3.ls), _, _, rfl, rfl, p, d3, sd, c3, _, rfl, R3, by omega, small (by omega), by omega, fun q d4 c4 G4 q0 q1 e4 R4 K4 => ?_⟩
      refine ⟨q.toNat, by rw [Int.toNat_of_nonneg q0]; rfl, by omega, by show 4 ≤ sizeLine; omega, fun S nS => ?_⟩
      exact ⟨S, a, b, _, d4, c4, rfl, upd_same, (K13.trans K4).free ⟨_, R4.at_⟩ nS, R4.same (same_more (Same.refl _) nS), by omega, (K13.trans K4).trans (KeepP.of (same_more (Same.refl _) nS))⟩
    rintro τ G2 ⟨S, a, b, e, d2, c2, rfl, hS, nS, R2, e2, K2⟩
    have Sp : S ≠ p := R.ne nS
    refine ⟨fun τ G => ∃ (a b g e d3 c3 : Int) (x : Option V), τ = [some (.ref p), some (.ref t), some (.int (Bg.W (scales.length + 1))), some (.int way), some (.ref S), x] ∧ G S = some (.lst [.int a, .int b, .int g, .int e]) ∧ RngAtD G p d3 sd c3 ∧ c3 ≤ c + 15 ∧ KeepP p H G, ?_, ?_⟩
    · refine ⟨_, rfl, p, d2, sd, c2, 3, rfl, R2, by decide, small (by decide), by omega, fun q d3 c3 G3 q0 q1 e3 R3 K3 => ⟨_, _, rfl, rfl, 1 + q, rfl, by omega, by omega, ?_⟩⟩
      refine for_range (lo := 0) (n := (1 + q).toNat) (fun i σ G => ∃ (a b g e d3 c3 : Int) (x : Option V), σ = [some (.ref p), some (.ref t), some (.int (Bg.W (scales.length + 1))), some (.int way), some (.ref S), x] ∧ G S = some (.lst [.int a, .int b, .int g, .int e]) ∧ RngAtD G p d3 sd c3 ∧ c3 ≤ c + 5 + 2 * (i : Int) ∧ KeepP p H G)
        ⟨a, b, 0, e, d3, c3, none, rfl, K3 _ _ hS Sp, R3, by omega, K2.trans K3⟩ ?_ ?_
      · rintro i σ G hi ⟨a, b, g, e, d4, c4, x, rfl, hS, R4, e4, K4⟩
        have T4 := TA.keepP R K4
        refine ⟨_, rfl, S, _, _, V.int g, rfl, rfl, SqL.of hS, rfl, _, rfl, p, d4, sd, c4, 1000, rfl, R4, by decide, small (by decide), by omega, fun r d5 c5 G5 r0 r1 e5 R5 K5 => ?_⟩
        have T5 := T4.keepP R4 K5
        refine ⟨_, rfl, _, rfl, t, _, _, _, rfl, rfl, SqT.of T5.tup, rfl, sc, _, rfl, .inl (SqL.of T5.ls), _, _, rfl, rfl, p, d5, sd, c5, _, rfl, R5, by omega, small (by omega), by omega, fun q d6 c6 G6 q0 q1 e6 R6 K6 => ?_⟩
        have hS6 := K6 _ _ (K5 _ _ hS Sp) Sp
        refine ⟨q.toNat, by rw [Int.toNat_of_nonneg q0]; rfl, by omega, _, _, rfl, rfl, wide_mul (show r.natAbs < 2 ^ 10 by omega) (W_big q.toNat (by omega)) (by decide) (by decide) (by decide), _, _, rfl, rfl, _, rfl, S, _, _, 2, rfl, rfl, hS6, rfl, ?_⟩
        refine ⟨a, b, _, e, d6, c6, some (.int (0 + (i : Int))), rfl, upd_same, ⟨(upd_ne Sp.symm).trans R6.at_, R6.d0, R6.s0, R6.s1, R6.c0⟩, by omega, fun q' o' e' n' => (upd_ne fun z => ?_).trans (K6 _ _ (K5 _ _ (K4 _ _ e' n') n') n')⟩
        rw [z, nS] at e'
        cases e'
      · rintro σ G ⟨a, b, g, e, d4, c4, x, rfl, hS, R4, e4, K4⟩
        exact ⟨a, b, g, e, d4, c4, x, rfl, hS, R4, by omega, K4⟩
    rintro τ G3 ⟨a, b, g, e, d3, c3, x, rfl, hS, R3, e3, K3⟩
    refine ⟨_, rfl, _, _, rfl, rfl, ?_⟩
    refine ⟨_, rfl, S, _, _, _, rfl, rfl, SqL.of hS, rfl, _, rfl, S, _, _, _, rfl, rfl, SqL.of hS, rfl, _, rfl, S, _, _, _, rfl, rfl, SqL.of hS, rfl, ?_⟩
    refine ⟨_, rfl, S, _, _, _, rfl, rfl, SqL.of hS, rfl, _, rfl, p, d3, sd, c3, 3, rfl, R3, by decide, small (by decide), by omega, fun r d4 c4 G4 r0 r1 e4 R4 K4 => ?_⟩
    refine ⟨_, _, rfl, rfl, _, _, rfl, rfl, by show 4 ≤ sizeLine; omega, fun L nL => ?_⟩
    obtain ⟨v, hv⟩ := pick4 (a := a) (b := b) (c := g) (d := e + r - 1) w0 w1
    refine ⟨_, rfl, L, _, _, .int v, rfl, rfl, SqL.of upd_same, hv, _, _, rfl, _, _, rfl, ?_⟩
    refine k _ d4 c4 _ ?_ ?_ (R4.same (same_more (Same.refl _) nL)) (by omega) ((KeepP.trans K3 K4).trans (KeepP.of (same_more (Same.refl _) nL)))
    · repeat' split
      all_goals omega
    · repeat' split
      all_goals omega
end
end LB
set_option Elab.async false
set_option linter.all false
set_option maxRecDepth 100000
set_option maxHeartbeats 4000000
/-! The program's own: the place of a number, the number at a place. -/
namespace LB
open PySem L2 Wk
open Bg (Bg Wo)
def cfS (F : Int → Int) (e : Str × Bg) : Int := Bg.cf F e.2
/-- the step to the word x: the beginning behind it, or the same one if no step has it -/
def nxt (st : List (Str × Bg)) (b : Bg) (x : Str) : Bg := match st.find? fun e => decide (e.1 = x) with
  | some e => e.2
  | none => b
/-- the place that the program counts -/
def plc (F : Int → Int) (ws : List (Str × Wo)) : Bg → List Str → Int → Int
  | _, [], acc => acc
  | b, x :: xs, acc => plc F ws (nxt (stepsOf b ws) b x) xs (acc + Bg.own F b + Bg.sumL (cfS F) ((stepsOf b ws).takeWhile fun e => decide (e.1 ≠ x)))
/-- the program finds r at the place left behind b -/
inductive NumAt (F : Int → Int) (ws : List (Str × Wo)) : Bg → Int → Int → Prop
  | own {b : Bg} : Bg.own F b = 1 → NumAt F ws b 0 (b.t + b.g)
  | step {b c : Bg} {x : Str} {left r : Int} {pre post : List (Str × Bg)} : stepsOf b ws = pre ++ (x, c) :: post → 0 ≤ left - Bg.own F b - Bg.sumL (cfS F) pre → left - Bg.own F b - Bg.sumL (cfS F) pre < Bg.cf F c →
      NumAt F ws c (left - Bg.own F b - Bg.sumL (cfS F) pre) r → NumAt F ws b left r
theorem steps_sum (F : Int → Int) (b : Bg) : ∀ ws : List (Str × Wo), Bg.sumL (cfS F) (stepsOf b ws) = Bg.sumL (fun e => Bg.cfo F b e.2) ws
  | [] => rfl
  | e :: ws => by
    have ih := steps_sum F b ws
    unfold stepsOf at ih ⊢
    show Bg.sumL (cfS F) (List.filterMap _ (e :: ws)) = Bg.cfo F b e.2 + Bg.sumL (fun e => Bg.cfo F b e.2) ws
    rw [List.filterMap_cons]
    cases h : Bg.fol b e.2 with
    | none =>
      simp only [Option.map_none]
      rw [ih]
      unfold Bg.cfo
      rw [h]
      simp
    | some c =>
      simp only [Option.map_some]
      show cfS F (e.1, c) + _ = _
      rw [ih]
      congr 1
      unfold Bg.cfo
      rw [h]
      rfl
theorem steps_count {F : Int → Int} {b : Bg} {ws : List (Str × Wo)} {k : Nat} (ok : Bg.Ok b) (hm : b.m ≤ k + 1) (hw : (ws.map (·.2)).Perm (Bg.all k)) : Bg.cf F b = Bg.own F b + Bg.sumL (cfS F) (stepsOf b ws) := by
  rw [steps_sum, Bg.count ok hm, ← Bg.sumL_perm _ hw, Bg.sumL_map]
theorem steps_mem {b : Bg} {ws : List (Str × Wo)} {e : Str × Bg} (h : e ∈ stepsOf b ws) : ∃ x, (e.1, x) ∈ ws ∧ Bg.fol b x = some e.2 := by
  obtain ⟨y, hy, he⟩ := List.mem_filterMap.mp h
  cases q : Bg.fol b y.2 with
  | none =>
    rw [q] at he
    cases he
  | some c =>
    rw [q] at he
    cases he
    exact ⟨y.2, hy, q⟩
theorem take_while_next {α : Type} {p : α → Bool} {l : List α} {i : Nat} {x : α} (h : l[i]? = some x) (hb : ∀ y ∈ l.take i, p y = true) (hx : p x = false) : l.takeWhile p = l.take i := by
  obtain ⟨hi, e⟩ := List.getElem?_eq_some_iff.mp h
  have z := List.take_append_drop i l
  rw [List.drop_eq_getElem_cons hi, e] at z
  conv => lhs; rw [← z]
  rw [List.takeWhile_append_of_pos hb, List.takeWhile_cons_of_neg (by simp [hx]), List.append_nil]
theorem take_while_all {α : Type} {p : α → Bool} {l : List α} (hb : ∀ y ∈ l, p y = true) : l.takeWhile p = l := by
  have := List.takeWhile_append_of_pos (l₂ := []) hb
  simpa using this
theorem find_next {α : Type} {p : α → Bool} {l : List α} {i : Nat} {x : α} (h : l[i]? = some x) (hb : ∀ y ∈ l.take i, p y = false) (hx : p x = true) : l.find? p = some x := by
  obtain ⟨hi, e⟩ := List.getElem?_eq_some_iff.mp h
  have z := List.take_append_drop i l
  rw [List.drop_eq_getElem_cons hi, e] at z
  rw [← z, List.find?_append, List.find?_eq_none.mpr (fun y hy => by simp [hb y hy]), List.find?_cons_of_pos hx]
  rfl
/-- the table, valid, with its words -/
structure Tbl (H : Hp) (t : Addr) (ones tens : List Str) (hun : Str) (scales : List Str) (o te sc : Addr) : Prop where
  at_ : TabAt H t ones tens hun scales o te sc
  l1 : ones.length = 20
  l2 : tens.length = 8
  l3 : scales.length ≤ 90
  nd : (ones ++ (tens ++ hun :: scales)).Nodup
theorem Tbl.same {H H' : Hp} {t : Addr} {ones tens : List Str} {hun : Str} {scales : List Str} {o te sc : Addr} (T : Tbl H t ones tens hun scales o te sc) (s : Same H H') : Tbl H' t ones tens hun scales o te sc :=
  ⟨⟨s _ _ T.at_.tup, s _ _ T.at_.lo, s _ _ T.at_.lt, s _ _ T.at_.ls⟩, T.l1, T.l2, T.l3, T.nd⟩
def spPlaceW : Sp := fun vs H Q _ => ∃ (t o te sc : Addr) (ones tens : List Str) (hun : Str) (scales : List Str) (n lo hi : Int), vs = [.ref t, .int n, .int lo, .int hi] ∧ Tbl H t ones tens hun scales o te sc ∧
  0 ≤ n ∧ n < Bg.W (scales.length + 1) ∧ lo ≤ hi ∧ ∀ ws H', Same H H' → ws.Perm (voc ones tens hun scales) → ascW ws →
    Q (.int (plc (Bg.fb lo hi) ws (Bg.start scales.length) ((Bg.nameW n (scales.length + 1)).map (wd ones tens hun scales)) 0)) H'
def spNumW : Sp := fun vs H Q _ => ∃ (t o te sc : Addr) (ones tens : List Str) (hun : Str) (scales : List Str) (n lo hi : Int), vs = [.ref t, .int n, .int lo, .int hi] ∧ Tbl H t ones tens hun scales o te sc ∧
  0 ≤ lo ∧ lo ≤ hi ∧ hi < Bg.W (scales.length + 1) ∧ 0 ≤ n ∧ n ≤ hi - lo ∧ ∀ ws r H', Same H H' → ws.Perm (voc ones tens hun scales) → ascW ws → NumAt (Bg.fb lo hi) ws (Bg.start scales.length) n r → Q (.int r) H'
section
variable {P : Program} {w : World} {K : PySem.W.Frag} {mg : Str → Option Value} {base : Heap}
theorem cs_get {cs : List (Addr × Str × Addr × Bg)} {i : Nat} {y : V} (h : (cs.map fun c => V.ref c.1)[i]? = some y) : ∃ c, cs[i]? = some c ∧ y = .ref c.1 := by
  rw [List.getElem?_map] at h
  cases q : cs[i]? with
  | none =>
    rw [q] at h
    cases h
  | some c =>
    rw [q] at h
    exact ⟨c, rfl, (Option.some.inj h).symm⟩
theorem scPlaceW : FnScope ["table", "number", "low", "high", "words", "beginning", "place", "word", "other", "longer"] ["table", "number", "low", "high"] (defScope sPlaceW) := ⟨rfl, rfl, rfl, by decide +kernel, rfl, by decide +kernel, by decide +kernel⟩
theorem ok_placeW {f fV fS fP fE fT fC : Addr} {fd dV dS dP dE dT dC : FuncData} (F : Fun K "place_within" "place_within" sPlaceW f fd)
    (DV : Def1 P w K mg base "vocabulary" 2 fV dV ["table"] spVocab) (DS : Def1 P w K mg base "start" 2 fS dS ["table"] (spStart K)) (DP : Def1 P w K mg base "spelled" 2 fP dP ["table", "number"] spSpelled)
    (DE : Def1 P w K mg base "ends_within" 2 fE dE ["beginning", "low", "high"] (spEnds K)) (DT : Def1 P w K mg base "steps" 3 fT dT ["beginning", "words"] (spSteps K)) (DC : Def1 P w K mg base "count_within" 2 fC dC ["beginning", "low", "high"] (spCount K)) :
    FnOk P w K mg base CX0 4 f fd ["table", "number", "low", "high"] spPlaceW := by
  refine F.ok scPlaceW (fun vs H Q E h => ?_) (fun cdv A outer s H vs Q E hr h => ?_)
  · obtain ⟨t, o, te, sc, ones, tens, hun, scales, n, lo, hi, rfl, _⟩ := h
    rfl
  · obtain ⟨t, o, te, sc, ones, tens, hun, scales, n, lo, hi, rfl, TB, n0, n1, lh, k⟩ := h
    have hr2 : Room 2 _ := hr.mono (by decide)
    refine ⟨_, pss_cons (ps_set (i := 4) scPlaceW.nd rfl (.inl rfl) (pe_call DV.ok hr2 (by rfl) DV.g DV.k DV.b .nil pass0 (pa_cons (pv 0) pa_nil)))
      (pss_cons (ps_set (i := 5) scPlaceW.nd rfl (.inl rfl) (pe_call DS.ok hr2 (by rfl) DS.g DS.k DS.b .nil pass0 (pa_cons (pv 0) pa_nil)))
      (pss_cons (ps_set (i := 6) scPlaceW.nd rfl (.inl rfl) pe_int)
      (pss_cons (ps_for PassesOwn.never rfl (pi_list (pe_call DP.ok hr2 (by rfl) DP.g DP.k DP.b .nil pass0 (pa_cons (pv 0) (pa_cons (pv 1) pa_nil)))) (pg_name (i := 7) scPlaceW.nd rfl (.inl rfl))
        (pss_mid (ps_if (pt_val (pe_call DE.ok hr2 (by rfl) DE.g DE.k DE.b .nil pass0 (pa_cons (pv 5) (pa_cons (pv 2) (pa_cons (pv 3) pa_nil))))) (pss_one (ps_set (i := 6) scPlaceW.nd rfl (.inl rfl) (pe_op op_add (pv 6) pe_int))) pss_nil)
        (pss_one (ps_for PassesOwn.never rfl (pi_list (pe_call DT.ok hr (by rfl) DT.g DT.k DT.b .nil pass0 (pa_cons (pv 5) (pa_cons (pv 4) pa_nil)))) (pg_tup (by rfl) (pgs_cons (pg_name (i := 8) scPlaceW.nd rfl (.inl rfl)) (pgs_cons (pg_name (i := 9) scPlaceW.nd rfl (.inl rfl)) pgs_nil)))
          (pss_cons (ps_if (pt_cmpR op_eq (pv 8) (pv 7) (nomark _)) (pss_cons (ps_set (i := 5) scPlaceW.nd rfl (.inl rfl) (pv 9)) (pss_one ps_break)) pss_nil)
          (pss_one (ps_set (i := 6) scPlaceW.nd rfl (.inl rfl) (pe_op op_add (pv 6) (pe_call DC.ok hr2 (by rfl) DC.g DC.k DC.b .nil pass0 (pa_cons (pv 9) (pa_cons (pv 2) (pa_cons (pv 3) pa_nil))))))))))))
      (pss_one (ps_ret (pv 6)))))), ?_⟩
    have l1 := TB.l1
    have l2 := TB.l2
    have l3 := TB.l3
    refine ⟨_, rfl, t, o, te, sc, ones, tens, hun, scales, rfl, TB.at_, by omega, by omega, by omega, TB.nd, fun l vz H1 nl s1 hv _ hperm hasc => ?_⟩
    have T1 := TB.same s1
    refine ⟨_, rfl, t, o, te, sc, ones, tens, hun, scales, rfl, T1.at_, by omega, fun p H2 np s2 hp => ?_⟩
    have T2 := T1.same s2
    refine ⟨_, rfl, _, rfl, t, o, te, sc, ones, tens, hun, scales, n, rfl, T2.at_, l1, l2, l3, n0, n1, fun q H3 nq s3 hq => ?_⟩
    have lv : vz.length ≤ 1000 := by
      have := hperm.length_eq
      rw [List.length_map, voc_len] at this
      omega
    have wok : ∀ z ∈ vz, Bg.WOk z.2.2 := fun z hz => by
      have h1 : z.2 ∈ voc ones tens hun scales := hperm.mem_iff.mp (List.mem_map.mpr ⟨z, hz, rfl⟩)
      have h2 : z.2.2 ∈ (voc ones tens hun scales).map (·.2) := List.mem_map.mpr ⟨_, h1, rfl⟩
      rw [voc_snd l1 l2] at h2
      exact Bg.all_ok h2
    generalize hws : vz.map (·.2) = ws at hperm hasc
    generalize hnm : (Bg.nameW n (scales.length + 1)).map (wd ones tens hun scales) = nm at hq k
    generalize hF : Bg.fb lo hi = FF at k
    have s13 : Same H1 H3 := s2.trans s3
    refine ⟨q, rfl, ⟨_, SqL.of hq⟩, for_list (K := K) (a := q) (xs := nm.map V.str) (fun j σ G => ∃ (pb : Addr) (b : Bg) (acc : Int) (x y z : Option V), σ = [some (.ref t), some (.int n), some (.int lo), some (.int hi), some (.ref l), some (.ref pb), some (.int acc), x, y, z] ∧
      Same H3 G ∧ SqT K G pb (BgV b) ∧ Bg.Ok b ∧ plc FF ws b (nm.drop j) acc = plc FF ws (Bg.start scales.length) nm 0) ?_ ?_ ?_ ?_⟩
    · exact ⟨p, _, 0, none, none, none, rfl, Same.refl _, s3.tp hp, Bg.start_ok _, rfl⟩
    · rintro j σ G _ ⟨_, _, _, _, _, _, _, s4, _⟩
      exact SqL.of (s4 _ _ hq)
    · rintro j y σ G hj ⟨pb, b, acc, x0, y0, z0, rfl, s4, hb, ok, e⟩
      obtain ⟨x, hx, rfl⟩ := str_at hj
      have jl := (List.getElem?_eq_some_iff.mp hx).1
      have dj : nm.drop j = x :: nm.drop (j + 1) := by
        rw [List.drop_eq_getElem_cons jl]
        congr 1
        exact (List.getElem?_eq_some_iff.mp hx).2
      rw [dj] at e
      refine ⟨fun τ G2 => G2 = G ∧ τ = [some (.ref t), some (.int n), some (.int lo), some (.int hi), some (.ref l), some (.ref pb), some (.int (acc + Bg.own FF b)), some (.str x), y0, z0], ?_, ?_⟩
      · refine ⟨_, rfl, _, rfl, _, rfl, pb, b, lo, hi, rfl, hb, _, rfl, ?_⟩
        have oc := Bg.own_code (lo := lo) (hi := hi) (b := b) lh
        rw [hF] at oc
        change Bg.own FF b = if endsB lo hi b = true then 1 else 0 at oc
        cases he : endsB lo hi b with
        | true =>
          rw [he, if_pos rfl] at oc
          refine iteT ⟨_, rfl, _, _, rfl, rfl, rfl, ?_⟩
          rw [oc]
          rfl
        | false =>
          rw [he, if_neg Bool.false_ne_true] at oc
          refine iteF ⟨rfl, ?_⟩
          rw [oc, Int.add_zero]
          rfl
      rintro τ G2 ⟨rfl, rfl⟩
      refine ⟨_, rfl, _, rfl, pb, b, l, vz, rfl, hb, ok, hv.same (s13.trans s4), lv, wok, fun u cs G3 nu s5 hst ec => ?_⟩
      rw [hws] at ec
      refine ⟨u, rfl, ⟨_, SqL.of hst.1⟩, for_list (K := K) (a := u) (xs := cs.map fun c => V.ref c.1) (fun i σ G4 => G4 = G3 ∧ (∀ c ∈ cs.take i, c.2.1 ≠ x) ∧ ∃ y z : Option V, σ = [some (.ref t), some (.int n), some (.int lo), some (.int hi), some (.ref l), some (.ref pb), some (.int (acc + Bg.own FF b + Bg.sumL (cfS FF) ((cs.take i).map pairS))), some (.str x), y, z]) ?_ ?_ ?_ ?_⟩
      · refine ⟨rfl, (fun c hc => nomatch hc), y0, z0, ?_⟩
        show _ = [_, _, _, _, _, _, some (V.int (acc + Bg.own FF b + 0)), _, _, _]
        rw [Int.add_zero]
      · rintro i σ G4 _ ⟨rfl, _⟩
        exact SqL.of hst.1
      · rintro i y σ G4 hic ⟨rfl, before, y1, z1, rfl⟩
        obtain ⟨c, hc, rfl⟩ := cs_get hic
        obtain ⟨c1, c2⟩ := hst.2 c (List.mem_of_getElem? hc)
        have pc : (stepsOf b ws)[i]? = some (pairS c) := by
          rw [← ec, List.getElem?_map, hc]
          rfl
        obtain ⟨wo, hwo, hfol⟩ := steps_mem (List.mem_of_getElem? pc)
        have okc : Bg.Ok c.2.2.2 := by
          rw [← hws] at hwo
          obtain ⟨z, hz, ez⟩ := List.mem_map.mp hwo
          have := wok z hz
          rw [ez] at this
          exact Bg.fol_ok ok this hfol
        have tk : (stepsOf b ws).take i = (cs.take i).map pairS := by rw [← ec, List.map_take]
        refine ⟨c.1, _, rfl, SqT.of c1, rfl, _, _, rfl, _, _, rfl, rfl, ?_⟩
        refine ⟨_, rfl, _, rfl, rfl, _, rfl, ite2 (fun d => ?_) (fun d => ?_)⟩
        · have ex : c.2.1 = x := V.str.inj (of_decide_eq_true d)
          refine ⟨_, rfl, ?_⟩
          refine ⟨c.2.2.1, c.2.2.2, _, _, _, _, rfl, s4.trans s5, c2, okc, ?_⟩
          rw [← e]
          show _ = plc FF ws (nxt (stepsOf b ws) b x) (nm.drop (j + 1)) _
          have n1 : nxt (stepsOf b ws) b x = c.2.2.2 := by
            unfold nxt
            rw [find_next pc (fun y hy => ?_) (decide_eq_true ex)]
            · rfl
            · rw [tk] at hy
              obtain ⟨z, hz, rfl⟩ := List.mem_map.mp hy
              exact decide_eq_false (before z hz)
          have n2 : (stepsOf b ws).takeWhile (fun e => decide (e.1 ≠ x)) = (cs.take i).map pairS := by
            rw [take_while_next pc (fun y hy => ?_) (decide_eq_false (fun z => z ex)), tk]
            rw [tk] at hy
            obtain ⟨z, hz, rfl⟩ := List.mem_map.mp hy
            exact decide_eq_true (before z hz)
          rw [n1, n2]
        · refine ⟨_, rfl, _, rfl, _, rfl, _, rfl, c.2.2.1, c.2.2.2, lo, hi, rfl, c2, okc, _, _, rfl, rfl, rfl, ?_, some (.str c.2.1), some (.ref c.2.2.1), ?_⟩
          · intro c' hc'
            rw [List.take_add_one, hc] at hc'
            rcases List.mem_append.mp hc' with h | h
            · exact before c' h
            · have := List.mem_singleton.mp h
              rw [this]
              intro z
              exact d (decide_eq_true (by rw [z]))
          · rw [List.take_add_one, hc, List.map_append, Bg.sumL_append, hF]
            show _ = [_, _, _, _, _, _, some (V.int (acc + Bg.own FF b + (Bg.sumL (cfS FF) ((cs.take i).map pairS) + (Bg.cf FF c.2.2.2 + 0)))), _, _, _]
            rw [Int.add_zero, ← Int.add_assoc]
            rfl
      · rintro σ G4 ⟨rfl, before, y1, z1, rfl⟩
        rw [List.length_map, List.take_length] at before ⊢
        refine ⟨pb, b, _, _, _, _, rfl, s4.trans s5, s5.tp hb, ok, ?_⟩
        rw [← e]
        show _ = plc FF ws (nxt (stepsOf b ws) b x) (nm.drop (j + 1)) _
        have all : ∀ y ∈ stepsOf b ws, y.1 ≠ x := fun y hy => by
          rw [← ec] at hy
          obtain ⟨z, hz, rfl⟩ := List.mem_map.mp hy
          exact before z hz
        have n1 : nxt (stepsOf b ws) b x = b := by
          unfold nxt
          rw [List.find?_eq_none.mpr fun y hy => by simpa using all y hy]
        rw [n1, take_while_all fun y hy => decide_eq_true (all y hy), ec]
    · rintro σ G ⟨pb, b, acc, x0, y0, z0, rfl, s4, hb, ok, e⟩
      rw [List.length_map, List.drop_length] at e
      change acc = _ at e
      rw [e]
      exact ⟨_, rfl, k ws G (s1.trans (s13.trans s4)) hperm hasc⟩
end
end LB
set_option Elab.async false
set_option linter.all false
set_option maxRecDepth 100000
set_option maxHeartbeats 4000000
/-! The program's own: the numbers one word longer than a beginning. -/
namespace LB
open PySem L2 Wk
open Bg (Bg Wo)
/-- the numbers to which one more word leads, in the order of the words -/
def numsOf (b : Bg) (l : List (Str × Wo)) : List Int := (l.map (·.2)).filterMap fun x => (Bg.fol b x).map fun c => c.t + c.g
theorem nums_steps (b : Bg) : ∀ l : List (Str × Wo), (stepsOf b l).map (fun e => e.2.t + e.2.g) = numsOf b l
  | [] => rfl
  | e :: l => by
    unfold stepsOf numsOf
    rw [List.map_cons, List.filterMap_cons, List.filterMap_cons]
    cases h : Bg.fol b e.2 with
    | none => exact nums_steps b l
    | some c => exact congrArg (fun z => (c.t + c.g) :: z) (nums_steps b l)
theorem nums_perm {b : Bg} {l m : List (Str × Wo)} (h : l.Perm m) : (numsOf b l).Perm (numsOf b m) := (h.map _).filterMap _
theorem nums_len {b : Bg} {l : List (Str × Wo)} : (numsOf b l).length ≤ l.length := by
  have h := List.length_filterMap_le (fun x => (Bg.fol b x).map fun c => c.t + c.g) (l.map (·.2))
  rw [List.length_map] at h
  exact h
theorem vocD_ok {ones tens : List Str} {hun : Str} {scales : List Str} (l1 : ones.length = 20) (l2 : tens.length = 8) {e : Str × Wo} (he : e ∈ voc ones tens hun scales) : Bg.WOk e.2 := by
  have z : e.2 ∈ (voc ones tens hun scales).map (·.2) := List.mem_map.mpr ⟨e, he, rfl⟩
  rw [voc_snd l1 l2] at z
  exact Bg.all_ok z
def spOneL (K : PySem.W.Frag) : Sp := fun vs H Q _ => ∃ (t o te sc : Addr) (ones tens : List Str) (hun : Str) (scales : List Str) (p : Addr) (b : Bg), vs = [.ref t, .ref p] ∧ TabAt H t ones tens hun scales o te sc ∧ ones.length = 20 ∧ tens.length = 8 ∧ scales.length ≤ 30 ∧
  (ones ++ (tens ++ hun :: scales)).Nodup ∧ SqT K H p (BgV b) ∧ Bg.Ok b ∧ ∀ (L : Addr) (ns : List Int) (H' : Hp), H L = none → Same H H' → H' L = some (.lst (ns.map V.int)) → ns.Perm (numsOf b (voc ones tens hun scales)) → ns.length ≤ 60 → Q (.ref L) H'
section
variable {P : Program} {w : World} {K : PySem.W.Frag} {mg : Str → Option Value} {base : Heap}
theorem scOneL : FnScope ["table", "beginning", "_", "longer"] ["table", "beginning"] (defScope sOneLonger) := ⟨rfl, rfl, rfl, by decide +kernel, rfl, by decide +kernel, by decide +kernel⟩
theorem ok_oneL {f fT fV fO : Addr} {fd dT dV dO : FuncData} (F : Fun K "_one_word_longer" "_one_word_longer" sOneLonger f fd) (DT : Def1 P w K mg base "steps" 3 fT dT ["beginning", "words"] (spSteps K)) (DV : Def1 P w K mg base "vocabulary" 2 fV dV ["table"] spVocab)
    (DO : Def1 P w K mg base "own_number" 1 fO dO ["beginning"] (spOwn K)) : FnOk P w K mg base CX0 4 f fd ["table", "beginning"] (spOneL K) := by
  refine F.ok scOneL (fun vs H Q E h => ?_) (fun cdv A outer s H vs Q E hr h => ?_)
  · obtain ⟨t, o, te, sc, ones, tens, hun, scales, p, b, rfl, _⟩ := h
    rfl
  · obtain ⟨t, o, te, sc, ones, tens, hun, scales, p, b, rfl, TA, l1, l2, l3, nd, hb, ok, k⟩ := h
    have hr3 : Room 3 _ := hr
    have hr2 : Room 2 _ := hr3.mono (by decide)
    have hr1 : Room 1 _ := hr3.mono (by decide)
    refine ⟨_, pss_one (ps_ret (pe_lc (own := [("_", 2), ("longer", 3)]) (g := gTup K 2 (gCons (gName 2) (gCons (gName 3) gNil))) (by rfl) scOneL.nd (pi_list (pe_call DT.ok hr3 (by rfl) DT.g DT.k DT.b .nil pass0 (pa_cons (pv 1) (pa_cons (pe_call DV.ok hr2 (by rfl) DV.g DV.k DV.b .nil pass0 (pa_cons (pv 0) pa_nil)) pa_nil)))) (blkOk_by (own := [("_", 2), ("longer", 3)]) (N := ["table", "beginning", "_", "longer"]) (sc := defScope sOneLonger) (by decide +kernel)) (fun _ _ _ _ _ => pg_tup (by rfl) (pgs_cons (pg_name (i := 2) scOneL.nd rfl (Or.inl rfl)) (pgs_cons (pg_name (i := 3) scOneL.nd rfl (Or.inl rfl)) pgs_nil))) (fun _ _ _ _ _ => pts_nil) (fun _ _ _ _ _ => pe_call DO.ok hr1 (by rfl) DO.g DO.k DO.b .nil pass0 (pa_cons (pv 3) pa_nil)))), ?_⟩
    refine ⟨_, rfl, _, rfl, t, o, te, sc, ones, tens, hun, scales, rfl, TA, by omega, by omega, by omega, nd, fun l vz H1 nl s1 hv nv pm asc => ?_⟩
    have vl : vz.length = (voc ones tens hun scales).length := by
      have z := pm.length_eq
      rw [List.length_map] at z
      exact z
    have vl2 : (voc ones tens hun scales).length ≤ 60 := by
      unfold voc
      simp only [List.length_cons, List.length_append, enumW_len]
      omega
    have hw : ∀ z ∈ vz, Bg.WOk z.2.2 := fun z hz => vocD_ok l1 l2 (pm.mem_iff.mp (List.mem_map.mpr ⟨z, hz, rfl⟩))
    refine ⟨p, b, l, vz, rfl, s1.tp hb, ok, hv, by omega, hw, fun u cs G1 nu s2 hst ec => ?_⟩
    have s12 := Same.trans s1 s2
    have cl : cs.length ≤ 60 := by
      have h1 := congrArg List.length ec
      rw [List.length_map] at h1
      have h2 : (stepsOf b (vz.map (·.2))).length ≤ (vz.map (·.2)).length := List.length_filterMap_le ..
      rw [List.length_map] at h2
      omega
    refine ⟨u, rfl, ⟨_, SqL.of hst.1⟩, fun D nD => lc_it (walk_list (K := K) (a := u) (xs := cs.map fun c => V.ref c.1)) (fun i G => G D = some (.lst (((cs.take i).map fun c => c.2.2.2.t + c.2.2.2.g).map V.int)) ∧ Same G1 G) ?_ ?_ ?_ ?_⟩
    · exact ⟨upd_same, same_new nD⟩
    · rintro i G _ ⟨_, h2⟩
      exact SqL.of (h2 _ _ hst.1)
    · rintro i x G G' hil ⟨h1, h2⟩ ⟨rfl, hx⟩
      obtain ⟨c, hc, rfl⟩ := cs_get hx
      obtain ⟨c1, c2⟩ := hst.2 c (List.mem_of_getElem? hc)
      refine ⟨c.1, _, rfl, SqT.of (h2 _ _ c1), rfl, _, _, rfl, _, _, rfl, rfl, rfl, _, rfl, c.2.2.1, c.2.2.2, rfl, h2.tp c2, ?_⟩
      refine ⟨_, h1, ?_, ?_, fun q' o' e' => ?_⟩
      · rw [List.length_map, List.length_map, List.length_take]
        exact Nat.lt_of_lt_of_le (show min i cs.length < 1001 by omega) (by decide)
      · rw [upd_same, List.take_add_one, hc, List.map_append, List.map_append]
        rfl
      · rw [upd_ne (ne_of_none e' nD)]
        exact h2 _ _ e'
    · rintro G ⟨h1, h2⟩
      rw [List.length_map, List.take_length] at h1
      have e : cs.map (fun c => c.2.2.2.t + c.2.2.2.g) = numsOf b (vz.map (·.2)) := by
        rw [← nums_steps, ← ec, List.map_map]
        rfl
      rw [e] at h1
      refine k D _ G (Same.free s12 nD) (Same.trans s12 h2) h1 (nums_perm pm) ?_
      rw [← e, List.length_map]
      exact cl
end
end LB
set_option Elab.async false
set_option linter.all false
set_option maxRecDepth 100000
set_option maxHeartbeats 4000000
/-! The program's own: three beginnings. -/
namespace LB
open PySem L2 Wk
open Bg (Bg Wo)
def bgs (n : Nat) : List Bg := [Bg.start n, ⟨0, 1, 1, n + 1⟩, ⟨0, 100, 100, n + 1⟩]
theorem bgs_ok (n : Nat) : ∀ b ∈ bgs n, Bg.Ok b := by
  intro b hb
  rcases List.mem_cons.mp hb with rfl | hb
  · exact Bg.start_ok n
  have p1 : Bg.fol (Bg.start n) (.low 1) = some ⟨0, 1, 1, n + 1⟩ := rfl
  have o1 : Bg.Ok ⟨0, 1, 1, n + 1⟩ := Bg.fol_ok (Bg.start_ok n) (x := .low 1) (.inl ⟨by decide, by decide⟩) p1
  rcases List.mem_cons.mp hb with rfl | hb
  · exact o1
  rw [List.mem_singleton.mp hb]
  exact Bg.fol_ok o1 (x := .hun) trivial (show Bg.fol ⟨0, 1, 1, n + 1⟩ .hun = some ⟨0, 100, 100, n + 1⟩ from rfl)
def spBegin (K : PySem.W.Frag) : Sp := fun vs H Q _ => ∃ (t o te sc : Addr) (ones tens : List Str) (hun : Str) (scales : List Str), vs = [.ref t] ∧ TabAt H t ones tens hun scales o te sc ∧ scales.length ≤ 30 ∧
  ∀ (L : Addr) (ps : List (Addr × Bg)) (H' : Hp), H L = none → Same H H' → H' L = some (.lst (ps.map fun x => V.ref x.1)) → ps.map (·.2) = bgs scales.length → (∀ x ∈ ps, SqT K H' x.1 (BgV x.2)) → Q (.ref L) H'
section
variable {P : Program} {w : World} {K : PySem.W.Frag} {mg : Str → Option Value} {base : Heap}
theorem scBegin : FnScope ["table", "digit"] ["table"] (defScope sBegin) := ⟨rfl, rfl, rfl, by decide +kernel, rfl, by decide +kernel, by decide +kernel⟩
theorem ok_begin {f fS fF : Addr} {fd dS dF : FuncData} (F : Fun K "_beginnings" "_beginnings" sBegin f fd) (DS : Def1 P w K mg base "start" 2 fS dS ["table"] (spStart K)) (DF : Def1 P w K mg base "followed" 2 fF dF ["beginning", "worth"] (spFol K)) : FnOk P w K mg base CX0 3 f fd ["table"] (spBegin K) := by
  refine F.ok scBegin (fun vs H Q E h => ?_) (fun cdv A outer s H vs Q E hr h => ?_)
  · obtain ⟨t, o, te, sc, ones, tens, hun, scales, rfl, _⟩ := h
    rfl
  · obtain ⟨t, o, te, sc, ones, tens, hun, scales, rfl, TA, l3, k⟩ := h
    have hr2 : Room 2 _ := hr
    refine ⟨_, pss_cons (ps_set (i := 1) scBegin.nd rfl (.inl rfl) (pe_call DF.ok hr2 (by rfl) DF.g DF.k DF.b .nil pass0 (pa_cons (pe_call DS.ok hr2 (by rfl) DS.g DS.k DS.b .nil pass0 (pa_cons (pv 0) pa_nil)) (pa_cons pe_int pa_nil))))
        (pss_one (ps_ret (pe_lst (pa_cons (pe_call DS.ok hr2 (by rfl) DS.g DS.k DS.b .nil pass0 (pa_cons (pv 0) pa_nil)) (pa_cons (pv 1) (pa_cons (pe_call DF.ok hr2 (by rfl) DF.g DF.k DF.b .nil pass0 (pa_cons (pv 1) (pa_cons pe_int pa_nil))) pa_nil)))))), ?_⟩
    refine ⟨_, rfl, t, o, te, sc, ones, tens, hun, scales, rfl, TA, by omega, fun p0 G0 n0 s0 h0 => ?_⟩
    refine ⟨p0, _, .low 1, rfl, h0, Bg.start_ok _, .inl ⟨by decide, by decide⟩, fun h => (by cases h), fun b1 e1 p1 G1 s1 h1 => ?_⟩
    obtain rfl : (⟨0, 1, 1, scales.length + 1⟩ : Bg) = b1 := Option.some.inj e1
    have TA1 : TabAt G1 t ones tens hun scales o te sc := ⟨s1 _ _ (s0 _ _ TA.tup), s1 _ _ (s0 _ _ TA.lo), s1 _ _ (s0 _ _ TA.lt), s1 _ _ (s0 _ _ TA.ls)⟩
    refine ⟨_, rfl, t, o, te, sc, ones, tens, hun, scales, rfl, TA1, by omega, fun p2 G2 n2 s2 h2 => ?_⟩
    have o1 := bgs_ok scales.length ⟨0, 1, 1, scales.length + 1⟩ (by simp [bgs])
    refine ⟨_, rfl, _, rfl, p1, ⟨0, 1, 1, scales.length + 1⟩, .hun, rfl, s2.tp h1, o1, trivial, fun h => (by cases h), fun b3 e3 p3 G3 s3 h3 => ?_⟩
    obtain rfl : (⟨0, 100, 100, scales.length + 1⟩ : Bg) = b3 := Option.some.inj e3
    refine ⟨by show 3 ≤ sizeLine; decide, fun L nL => ?_⟩
    have sL := same_more (x := .lst [.ref p2, .ref p1, .ref p3]) s3 nL
    have sAll : Same H (upd G3 L (.lst [.ref p2, .ref p1, .ref p3])) := Same.trans s0 (Same.trans s1 (Same.trans s2 sL))
    refine k L [(p2, Bg.start scales.length), (p1, ⟨0, 1, 1, scales.length + 1⟩), (p3, ⟨0, 100, 100, scales.length + 1⟩)] _ (Same.free (Same.trans s0 (Same.trans s1 (Same.trans s2 s3))) nL) sAll upd_same rfl fun x hx => ?_
    rcases List.mem_cons.mp hx with rfl | hx
    · exact sL.tp h2
    rcases List.mem_cons.mp hx with rfl | hx
    · exact sL.tp (s2.tp h1)
    rw [List.mem_singleton.mp hx]
    exact (same_more (Same.refl G3) nL).tp h3
end
end LB
set_option Elab.async false
set_option linter.all false
set_option maxRecDepth 100000
set_option maxHeartbeats 4000000
/-! `name = {k: v for ..}`, and walks for a comprehension of a dict. -/
namespace Wk
open PySem PySem.Spec PyProof.Rows L2
theorem dc_it {J : It} {n : Nat} {G : Hp → Prop} {Y : Nat → Hp → V → Hp → Prop} (w : Walk J n G Y) {g : TG} {tt : TT} {tk tv : TE} {vs : List Nat} {σ : L2.St} {H1 : Hp} {D : Addr} {Qd : Hp → Prop} (Pv : Nat → Hp → Prop) (h0 : Pv 0 (upd H1 D (.dK []))) (hG : ∀ i H, i ≤ n → Pv i H → G H)
    (hs : ∀ i x H H', i < n → Pv i H → Y i H x H' → g x (wipe σ vs) H' fun σ2 H2 => wipe σ2 vs = wipe σ vs ∧ tt σ2 H2 fun b H3 =>
      if b = true then tk σ2 H3 fun y H4 => tv σ2 H4 fun z H5 => ∃ kvs k, y = kV k ∧ H5 D = some (.dK kvs) ∧ kvs.length < sizeLine ∧ Pv (i + 1) (upd H5 D (.dK (putK kvs k z))) else Pv (i + 1) H3) (hd : ∀ H, Pv n H → Qd H) :
    ∃ W : Nat → Nat → Hp → Prop, (∃ m, W 0 m (upd H1 D (.dK []))) ∧ ∀ i m H, W i m H →
      (J.stop i H ∧ Qd H) ∨ (J.go i H ∧ ∃ Nx : Hp → Prop, (∀ H', Nx H' → ∃ m', m' < m ∧ W (i + 1) m' H') ∧ ∀ x H', J.yld i H x H' → g x (wipe σ vs) H' fun σ2 H2 => wipe σ2 vs = wipe σ vs ∧ tt σ2 H2 fun b H3 =>
        if b = true then tk σ2 H3 fun y H4 => tv σ2 H4 fun z H5 => ∃ kvs k, y = kV k ∧ H5 D = some (.dK kvs) ∧ kvs.length < sizeLine ∧ Nx (upd H5 D (.dK (putK kvs k z))) else Nx H3) := by
  refine ⟨fun i m H => m = n - i ∧ i ≤ n ∧ Pv i H, ⟨n, by simp, Nat.zero_le _, h0⟩, ?_⟩
  rintro i m H ⟨rfl, le, p⟩
  have q := hG i H le p
  rcases Nat.lt_or_ge i n with lt | ge
  · exact .inr ⟨w.goes i H lt q, Pv (i + 1), fun H' p' => ⟨n - (i + 1), by omega, rfl, lt, p'⟩, fun x H' y => hs i x H H' lt p (w.yields i H x H' lt q y)⟩
  · obtain rfl : i = n := by omega
    exact .inl ⟨w.stops H q, hd H p⟩
theorem sw_dict {kx vx : Expr} {gs : List Comprehension} {scope : Scope} {pos py : Pos} {y : Str} {l : Nat} {env : Env} (a : env.scope.kind = .function) (b : env.scope.names.lookup y = some .local) (c : (py.line == pos.line) = true)
    (d : (scope.names.any fun (n, k) => n == y && (k == .local || k == .cell)) = false) : swapsWith (.DictComp kx vx gs scope pos) (some (.Name y py)) l env = pure true := by
  have e1 : env.kindOf y = some .local := b
  have e2 : env.blockKind = .function := by
    unfold Env.blockKind
    rw [a]
    rfl
  unfold swapsWith
  simp only [e2, e1, d, Expr.pos, c]
  rfl
section
variable {X : Cx}
theorem ps_setDc {i : Nat} {y : Str} {py : Pos} {kx vx tg iter : Expr} {ifs : List Expr} {scope : Scope} {own : List (Str × Nat)} {pos spos : Pos} {wi : TI} {g : TG} {tt : TT} {tk tv : TE} (cold : X.calm = true) (nd : X.N.Nodup) (at_ : X.N[i]? = some y) (loc : X.env.scope.names.lookup y = some .local)
    (sw : swapsWith (.DictComp kx vx [⟨tg, iter, ifs, 0⟩] scope pos) (some (.Name y py)) spos.line X.env = pure true) (hi : PI X tg iter wi) (ok : BlkOk X.N X.env.scope scope own)
    (hg : ∀ (s : Shared) (H : Hp) (C : Addr) (cl : List (Str × Addr)) (fp : List Addr), PG (X.blk s H scope (compEnvC scope cl C X.env) fp) tg g) (ht : ∀ (s : Shared) (H : Hp) (C : Addr) (cl : List (Str × Addr)) (fp : List Addr), PTs (X.blk s H scope (compEnvC scope cl C X.env) fp) ifs tt)
    (hk : ∀ (s : Shared) (H : Hp) (C : Addr) (cl : List (Str × Addr)) (fp : List Addr), PE (X.blk s H scope (compEnvC scope cl C X.env) fp) kx tk)
    (hv : ∀ (s : Shared) (H : Hp) (C : Addr) (cl : List (Str × Addr)) (fp : List Addr), PE (X.blk s H scope (compEnvC scope cl C X.env) fp) vx tv) (fold : ∀ x, foldedSetIterable iter X.env x = pure x := by intro _; rfl) :
    PS X (.Assign [.Name y py] (.DictComp kx vx [⟨tg, iter, ifs, 0⟩] scope pos) spos) (tAsg (tDc wi g tt tk tv (own.map (·.2))) (gName i)) := by
  refine ⟨fun pins s σ H D I h => ?_⟩
  rw [exec_Assign_Name_used _ _ _ _ sw]
  refine wpAny_bind (wpAny_standAt (wpAny_bind ?_))
  show wpAny _ X.A (do let _ ← comprehension (.DictComp kx vx [⟨tg, iter, ifs, 0⟩] scope pos) scope X.env (firstIterPos [⟨tg, iter, ifs, 0⟩] pos) newDict false (eval iter X.env) (some (assign (.Name y py) X.env))) _ _ s
  have h : tDc wi g tt tk tv (own.map (·.2)) σ H (fun x H1 => gName i x σ H1 D.nx) := h
  refine wpAny_bind (thn (dc_core (Qf := fun _ s' => SP X pins D .next s') cold nd I hi ok hg ht hk hv fold h fun L C s' m H' I' q hn f => ?_) fun _ s' hq => wpAny_pure (wpAny_pure hq))
  show wpAny _ _ (assign (.Name y py) X.env (.ref L)) _ _ _
  refine wpAny_assign_Name (store_ok2 (v := V.ref L) I' nd at_ (.inl loc) rfl (fun s2 I2 ⟨a, sb, ha⟩ => ?_) (.inr loc))
  obtain ⟨f0, f1, f2, f3, f4, f5⟩ := f
  have ne : C ≠ a := by
    rcases ha with z | z
    · rw [z]
      exact f1
    · exact fun e => f4 y a z e.symm
  refine ⟨m, hn.sameBut sb ne, fun h3 sb3 => ?_⟩
  exact ⟨_, H', I2.turned (t' := s2.toks) (fun b o hb e => (sb3.2 b hb).trans e) f0 f1 f3 f4 f5, q⟩
end
end Wk
set_option Elab.async false
set_option linter.all false
set_option maxRecDepth 100000
set_option maxHeartbeats 4000000
/-! The program's own: parting_numbers with its errors. -/
namespace LB
open PySem L2 Wk
open Bg (Bg Wo)
/-- a def that may raise, as its callers see it -/
structure DefX (P : Program) (w : World) (K : PySem.W.Frag) (mg : Str → Option Value) (base : Heap) (x : Str) (n : Nat) (f : Addr) (fd : FuncData) (ps : List Str) (sp : Sp) : Prop where
  ok : FnOk P w K mg base (L2.CX P w) n f fd ps sp
  g : mg x = some (.ref f)
  k : PySem.W.keepIn K (.ref f) = true
  b : Binds K fd ps []
/-- a table of words that may be wrong -/
structure TabD (H : Hp) (t : Addr) (ones tens : List Str) (hun : Str) (scales : List Str) (o te sc : Addr) : Prop where
  at_ : TabAt H t ones tens hun scales o te sc
  l1 : ones.length ≤ 20
  l2 : tens.length ≤ 9
  l3 : scales.length ≤ 21
  tm : ∀ x ∈ ones ++ (tens ++ hun :: scales), tame x = true
theorem TabD.same {H G : Hp} {t : Addr} {ones tens : List Str} {hun : Str} {scales : List Str} {o te sc : Addr} (T : TabD H t ones tens hun scales o te sc) (s : Same H G) : TabD G t ones tens hun scales o te sc :=
  ⟨⟨s _ _ T.at_.tup, s _ _ T.at_.lo, s _ _ T.at_.lt, s _ _ T.at_.ls⟩, T.l1, T.l2, T.l3, T.tm⟩
theorem TabD.short {H : Hp} {t : Addr} {ones tens : List Str} {hun : Str} {scales : List Str} {o te sc : Addr} (T : TabD H t ones tens hun scales o te sc) : ∀ x ∈ ones ++ (tens ++ hun :: scales), x.length ≤ 2000 := fun x hx => by
  have := (tame_ok (T.tm x hx)).1
  omega
theorem fault_lens {ones tens : List Str} {hun : Str} {scales : List Str} (h : fault ones tens hun scales = none) : ones.length = 20 ∧ tens.length = 8 ∧ (ones ++ (tens ++ hun :: scales)).Nodup := by
  unfold fault at h
  split at h
  · cases h
  · rename_i z
    have z1 : ones.length = 20 := Classical.not_not.mp fun n => z (.inl n)
    have z2 : tens.length = 8 := Classical.not_not.mp fun n => z (.inr n)
    have q := (firstBad_none h).2 List.nodup_nil
    rw [List.nil_append] at q
    exact ⟨z1, z2, q⟩
theorem ints_at {ns : List Int} {i : Nat} {y : V} (h : (ns.map V.int)[i]? = some y) : ∃ m, ns[i]? = some m ∧ y = .int m := by
  rw [List.getElem?_map] at h
  cases e : ns[i]? with
  | none => rw [e] at h; cases h
  | some m => rw [e] at h; exact ⟨m, rfl, (Option.some.inj h).symm⟩
def dueP (f1 f2 : Option V) (n1 n2 : Nat) : Option V := match f1 with
  | some v => some v
  | none => match f2 with
    | some v => some v
    | none => if n1 = n2 then none else some .non
def spPart (C : Addr) : Sp := fun vs H Q E => ∃ (t o te sc : Addr) (ones tens : List Str) (hun : Str) (scales : List Str) (t2 o2 te2 sc2 : Addr) (ones2 tens2 : List Str) (hun2 : Str) (scales2 : List Str), vs = [.ref t, .ref t2] ∧
  TabD H t ones tens hun scales o te sc ∧ TabD H t2 ones2 tens2 hun2 scales2 o2 te2 sc2 ∧
  (dueP (fault ones tens hun scales) (fault ones2 tens2 hun2 scales2) scales.length scales2.length = none → ∀ r H', Same H H' → (r = .non ∨ ∃ a, r = .ref a) → Q r H') ∧
  (∀ v, dueP (fault ones tens hun scales) (fault ones2 tens2 hun2 scales2) scales.length scales2.length = some v → ∀ d H', H d = none → Same H H' → H' d = some (.xd [("value", v)]) → E (.ref C) (some d) H')
section
variable {P : Program} {w : World} {K : PySem.W.Frag} {mg : Str → Option Value} {base : Heap} {C0 : Addr}
theorem scPart : FnScope ["first", "second", "beginning", "numbers", "at", "places", "number"] ["first", "second"] (defScope sParting) := ⟨rfl, rfl, rfl, by decide +kernel, rfl, by decide +kernel, by decide +kernel⟩
theorem ok_part {f fC fB fL I0 : Addr} {fd dC dB dL d0 : FuncData} (F : Fun K "parting_numbers" "parting_numbers" sParting f fd) (C : DefX P w K mg base "check_table" 3 fC dC ["table"] (spCheckX C0))
    (DB : Def1 P w K mg base "_beginnings" 3 fB dB ["table"] (spBegin K)) (DL : Def1 P w K mg base "_one_word_longer" 4 fL dL ["table", "beginning"] (spOneL K)) (F0 : ClsF P w K mg base "InvalidTable" C0 I0 d0)
    (mL : mg "len" = none) (mE : mg "enumerate" = none) (mR : mg "range" = none) : FnOk P w K mg base (L2.CX P w) 5 f fd ["first", "second"] (spPart C0) := by
  refine F.okX scPart (fun vs H Q E h => ?_) (fun cdv A outer s H vs Q E hr h => ?_)
  · obtain ⟨t, o, te, sc, ones, tens, hun, scales, t2, o2, te2, sc2, ones2, tens2, hun2, scales2, rfl, _⟩ := h
    rfl
  · obtain ⟨t, o, te, sc, ones, tens, hun, scales, t2, o2, te2, sc2, ones2, tens2, hun2, scales2, rfl, T1, T2, k, kE⟩ := h
    have hr4 : Room 4 _ := hr
    have hr3 : Room 3 _ := hr.mono (by decide)
    have hr2 : Room 2 _ := hr.mono (by decide)
    have hu := hu_of hr
    refine ⟨_, pss_cons (ps_expr (pe_call C.ok (hr.mono (by decide)) (by rfl) C.g C.k C.b .nil (passes_call (takes_of rfl rfl rfl rfl) (fun _ _ _ _ h => h)) (pa_cons (pv 0) pa_nil)))
        (pss_cons (ps_expr (pe_call C.ok (hr.mono (by decide)) (by rfl) C.g C.k C.b .nil (passes_call (takes_of rfl rfl rfl rfl) (fun _ _ _ _ h => h)) (pa_cons (pv 1) pa_nil)))
        (pss_cons (ps_if (pt_cmpR op_ne (pe_callB call_len_seq (by rfl) mL PySem.boot_len (pa_cons (pe_ix ix_tup (pv 0) pe_int (fun _ _ => rfl)) pa_nil)) (pe_callB call_len_seq (by rfl) mL PySem.boot_len (pa_cons (pe_ix ix_tup (pv 1) pe_int (fun _ _ => rfl)) pa_nil)) (nomark _)) (pss_one (ps_raiseV F0 hr2 rfl (takes_of rfl rfl rfl rfl) rfl pe_non)) pss_nil)
        (pss_cons (ps_for PassesOwn.leaving rfl (pi_list (pe_call DB.ok hr3 (by rfl) DB.g DB.k DB.b .nil pass0 (pa_cons (pv 0) pa_nil))) (pg_name (i := 2) scPart.nd rfl (.inl rfl)) (pss_cons (ps_set (i := 3) scPart.nd rfl (.inl rfl) (pe_call DL.ok hr4 (by rfl) DL.g DL.k DL.b .nil pass0 (pa_cons (pv 0) (pa_cons (pv 2) pa_nil))))
        (pss_mid (ps_setDc (i := 5) (y := "places") (own := [("at", 4), ("number", 6)]) (g := gTup K 2 (gCons (gName 4) (gCons (gName 6) gNil))) (by rfl) scPart.nd rfl rfl (sw_dict rfl rfl rfl (by decide +kernel)) (pi_enum rfl mE (pa_cons (pe_call DL.ok hr4 (by rfl) DL.g DL.k DL.b .nil pass0 (pa_cons (pv 1) (pa_cons (pv 2) pa_nil))) pa_nil)) (blkOk_by (own := [("at", 4), ("number", 6)]) (N := ["first", "second", "beginning", "numbers", "at", "places", "number"]) (sc := defScope sParting) (by decide +kernel)) (fun _ _ _ _ _ => pg_tup (by rfl) (pgs_cons (pg_name (i := 4) scPart.nd rfl (Or.inl rfl)) (pgs_cons (pg_name (i := 6) scPart.nd rfl (Or.inl rfl)) pgs_nil))) (fun _ _ _ _ _ => pts_nil) (fun _ _ _ _ _ => pv 6) (fun _ _ _ _ _ => pv 4))
        (pss_one (ps_for PassesOwn.leaving rfl (pi_range2 rfl mR (pa_cons pe_int (pa_cons (pe_callB call_len_seq (by rfl) mL PySem.boot_len (pa_cons (pv 3) pa_nil)) pa_nil))) (pg_name (i := 4) scPart.nd rfl (.inl rfl)) (pss_one (ps_if (pt_cmpR op_gt (pe_dget hu (pv 5) (pe_ix ix_list (pv 3) (pe_op op_sub (pv 4) pe_int) (fun _ _ => rfl)) (fun _ _ => rfl)) (pe_dget hu (pv 5) (pe_ix ix_list (pv 3) (pv 4) (fun _ _ => rfl)) (fun _ _ => rfl)) (nomark _)) (pss_one (ps_ret (pe_tup (pa_cons (pe_ix ix_list (pv 3) (pe_op op_sub (pv 4) pe_int) (fun _ _ => rfl)) (pa_cons (pe_ix ix_list (pv 3) (pv 4) (fun _ _ => rfl)) pa_nil))))) pss_nil)))))))
        (pss_one (ps_ret pe_non))))), ?_⟩
    refine ⟨_, rfl, t, o, te, sc, ones, tens, hun, scales, rfl, T1.at_, by have := T1.l1; omega, by have := T1.l2; omega, by have := T1.l3; omega, T1.short, fun hf H1 s1 => ?_, fun v hv d H' n s m => kE v (by unfold dueP; rw [hv]) d H' n s m⟩
    refine ⟨_, rfl, t2, o2, te2, sc2, ones2, tens2, hun2, scales2, rfl, (T2.same s1).at_, by have := T2.l1; omega, by have := T2.l2; omega, by have := T2.l3; omega, T2.short, fun hf2 H2 s2 => ?_, fun v hv d H' n s m => kE v (by unfold dueP; rw [hf, hv]) d H' (Same.free s1 n) (Same.trans s1 s) m⟩
    have s12 := Same.trans s1 s2
    have TA := T1.same s12
    have TB := T2.same s12
    rw [hf, hf2] at k kE
    obtain ⟨a20, a8, and_⟩ := fault_lens hf
    obtain ⟨b20, b8, bnd⟩ := fault_lens hf2
    refine ⟨_, rfl, t, _, _, _, rfl, rfl, SqT.of TA.at_.tup, rfl, sc, _, rfl, .inl (SqL.of TA.at_.ls), ?_⟩
    refine ⟨_, rfl, t2, _, _, _, rfl, rfl, SqT.of TB.at_.tup, rfl, sc2, _, rfl, .inl (SqL.of TB.at_.ls), rfl, _, rfl, ?_⟩
    rw [List.length_map, List.length_map]
    refine ite2 (fun c1 => ?_) (fun c1 => ?_)
    · refine mk_read fun d H' n s m => kE .non ?_ d H' (Same.free s12 n) (Same.trans s12 s) m
      show (if scales.length = scales2.length then none else some V.non) = some V.non
      rw [if_neg]
      intro e
      rw [e] at c1
      simp at c1
    have len : scales.length = scales2.length := by
      refine Classical.byContradiction fun n => c1 ?_
      have e : decide (V.int ((scales.length : Nat) : Int) = V.int ((scales2.length : Nat) : Int)) = false := decide_eq_false fun z => by
        injection z with z
        omega
      rw [e]
      rfl
    have fin : ∀ r H', Same H2 H' → (r = .non ∨ ∃ a, r = .ref a) → Q r H' := fun r H' s h => k (if_pos len) r H' (Same.trans s12 s) h
    have la := T1.l3
    have lb := T2.l3
    refine ⟨_, rfl, t, o, te, sc, ones, tens, hun, scales, rfl, TA.at_, by omega, fun L ps G nL sL hL ep hp => ⟨L, rfl, ⟨_, SqL.of hL⟩, for_list (K := K) (a := L) (xs := ps.map fun x => V.ref x.1)
      (fun i σ G' => ∃ x2 x3 x4 x5 : Option V, σ = [some (.ref t), some (.ref t2), x2, x3, x4, x5, none] ∧ Same G G') ⟨none, none, none, none, rfl, Same.refl G⟩ (fun i σ G' _ ⟨_, _, _, _, _, s⟩ => SqL.of (s _ _ hL)) ?_ ?_⟩⟩
    · rintro i y σ G' hi ⟨x2, x3, x4, x5, rfl, sG⟩
      obtain ⟨⟨q, b⟩, hq, rfl⟩ : ∃ x, ps[i]? = some x ∧ y = V.ref x.1 := by
        rw [List.getElem?_map] at hi
        cases e : ps[i]? with
        | none => rw [e] at hi; cases hi
        | some x => rw [e] at hi; exact ⟨x, rfl, (Option.some.inj hi).symm⟩
      have hqm := List.mem_of_getElem? hq
      have bm : b ∈ bgs scales.length := by
        rw [← ep]
        exact List.mem_map.mpr ⟨_, hqm, rfl⟩
      have hb := hp _ hqm
      have okb := bgs_ok _ b bm
      have sHG := Same.trans sL sG
      refine ⟨_, rfl, _, rfl, t, o, te, sc, ones, tens, hun, scales, q, b, rfl, (TA.same sHG).at_, a20, a8, by omega, and_, sG.tp hb, okb, fun N1 ns1 I1 n1 s1' h1 pm1 ln1 => ?_⟩
      have sI1 := Same.trans sHG s1'
      refine ⟨fun τ J => ∃ (D : Addr) (kvs : List (Key × V)), τ = [some (.ref t), some (.ref t2), some (.ref q), some (.ref N1), x4, some (.ref D), none] ∧ Same I1 J ∧ J D = some (.dK kvs) ∧ (∀ k ∈ ns1, ∃ z : Int, valV kvs (Sum.inl k) = some (.int z)), ?_, ?_⟩
      · refine ⟨_, rfl, _, rfl, t2, o2, te2, sc2, ones2, tens2, hun2, scales2, q, b, rfl, (TB.same sI1).at_, b20, b8, by omega, bnd, s1'.tp (sG.tp hb), okb, fun N2 ns2 I2 n2 s2' h2 pm2 ln2 => ?_⟩
        refine ⟨N2, _, rfl, SqL.of h2, fun D nD => dc_it (walk_enum (K := K) (a := N2) (xs := ns2.map V.int)) (fun i J => ∃ kvs : List (Key × V), J D = some (.dK kvs) ∧ kvs.length ≤ i ∧ (∀ k ∈ ns2.take i, ∃ z : Int, valV kvs (Sum.inl k) = some (.int z)) ∧ Same I2 J)
          ⟨[], upd_same, Nat.le_refl _, fun k hk => (by simp at hk), same_new nD⟩ (fun i J _ ⟨_, _, _, _, s⟩ => SqL.of (s _ _ h2)) ?_ ?_⟩
        · rintro i x J J' hi ⟨kvs, hD, kl, hk, sJ⟩ ⟨T, y1, y2, rfl, nT, rfl, hy1, hy2⟩
          cases hy1
          obtain ⟨n, hn, rfl⟩ := ints_at hy2
          have il := (List.getElem?_eq_some_iff.mp hn).1
          have DT : D ≠ T := ne_of_none hD nT
          refine ⟨T, _, rfl, SqT.of upd_same, rfl, _, _, rfl, _, _, rfl, rfl, rfl, _, rfl, _, rfl, kvs, Sum.inl n, rfl, (upd_ne DT).trans hD, by show _ < sizeLine; exact Nat.lt_of_lt_of_le (show kvs.length < 1001 by omega) (by decide), ?_⟩
          refine ⟨_, upd_same, by have := length_putK kvs (Sum.inl n : Key) (V.int (i : Nat)); omega, fun k hk2 => ?_, fun q' o' e' => ?_⟩
          · rw [valV_put]
            by_cases e : (Sum.inl k : Key) = Sum.inl n
            · rw [if_pos e]
              exact ⟨_, rfl⟩
            · rw [if_neg e]
              rw [List.take_add_one, hn] at hk2
              rcases List.mem_append.mp hk2 with z | z
              · exact hk k z
              · exact absurd (congrArg Sum.inl (List.mem_singleton.mp z)) e
          · rw [upd_ne (ne_of_none e' nD)]
            exact upd_keep (sJ _ _ e') nT
        · rintro J ⟨kvs, hD, kl, hk, sJ⟩
          rw [List.length_map, List.take_length] at hk
          refine ⟨D, kvs, rfl, Same.trans s2' sJ, hD, fun k hk1 => hk k ?_⟩
          have e : numsOf b (voc ones tens hun scales) = numsOf b (voc ones2 tens2 hun2 scales2) := by
            unfold numsOf
            rw [voc_snd a20 a8, voc_snd b20 b8, len]
          exact pm2.mem_iff.mpr (e ▸ pm1.mem_iff.mp hk1)
      rintro τ J ⟨D, kvs, rfl, sJ, hD, hk⟩
      have hN := sJ _ _ h1
      refine ⟨_, rfl, N1, _, rfl, .inl (SqL.of hN), 1, _, rfl, ⟨by decide, by decide, by omega, by rw [List.length_map]; omega⟩, for_range (lo := 1) (n := _) (fun i σ J' => J' = J ∧ ∃ x4 : Option V, σ = [some (.ref t), some (.ref t2), some (.ref q), some (.ref N1), x4, some (.ref D), none]) ⟨rfl, _, rfl⟩ ?_ ?_⟩
      · rintro j σ J' hj ⟨rfl, x4, rfl⟩
        rw [List.length_map] at hj
        have j1 : j + 1 < ns1.length := by omega
        obtain ⟨z1, e1⟩ := hk ns1[j] (List.getElem_mem (by omega))
        obtain ⟨z2, e2⟩ := hk ns1[j + 1] (List.getElem_mem j1)
        have a1 : atI (ns1.map V.int) (1 + (j : Int) - 1) = some (.int ns1[j]) := by
          rw [show (1 + (j : Int) - 1) = ((j : Nat) : Int) by omega]
          exact atI_nat (by rw [List.getElem?_map, List.getElem?_eq_getElem (by omega)]; rfl)
        have a2 : atI (ns1.map V.int) (1 + (j : Int)) = some (.int ns1[j + 1]) := by
          rw [show (1 + (j : Int)) = ((j + 1 : Nat) : Int) by omega]
          exact atI_nat (by rw [List.getElem?_map, List.getElem?_eq_getElem j1]; rfl)
        refine ⟨_, rfl, _, rfl, _, rfl, _, _, rfl, rfl, N1, _, _, _, rfl, rfl, SqL.of hN, a1, D, _, rfl, .inl ⟨kvs, Sum.inl ns1[j], .inl hD, rfl, e1.symm⟩, ?_⟩
        refine ⟨_, rfl, _, rfl, _, rfl, N1, _, _, _, rfl, rfl, SqL.of hN, a2, D, _, rfl, .inl ⟨kvs, Sum.inl ns1[j + 1], .inl hD, rfl, e2.symm⟩, ?_⟩
        refine ⟨_, _, rfl, rfl, _, rfl, ite2 (fun _ => ?_) (fun _ => ⟨rfl, _, rfl⟩)⟩
        refine ⟨_, rfl, _, rfl, _, _, rfl, rfl, N1, _, _, _, rfl, rfl, SqL.of hN, a1, _, rfl, _, rfl, N1, _, _, _, rfl, rfl, SqL.of hN, a2, by show 2 ≤ sizeLine; decide, fun T nT => ?_⟩
        exact fin _ _ (Same.trans sI1 (Same.trans sJ (same_new nT))) (.inr ⟨T, rfl⟩)
      · rintro σ J' ⟨rfl, x4, rfl⟩
        exact ⟨_, _, _, _, rfl, Same.trans sG (Same.trans s1' sJ)⟩
    · rintro σ G' ⟨x2, x3, x4, x5, rfl, sG⟩
      exact fin _ _ (Same.trans sL sG) (.inl rfl)
end
end LB
set_option Elab.async false
set_option linter.all false
set_option maxRecDepth 100000
set_option maxHeartbeats 4000000
/-! f(k = v, ..): keywords alone; what is raised is wished for at the caller's slots. -/
namespace Wk
open PySem PySem.Spec PyProof.Rows L2
def tCallKS (m : Nat) (sp : Sp) (gV : List V → List V → List V) (E : L2.St → XK) (tk : TA) : TE := fun σ H Q => tk σ H fun zs H2 => zs.length = m ∧ sp (gV [] zs) H2 Q (E σ)
section
variable {X : Cx} {CX : CXT} {k : Nat} {f : Addr} {fd : FuncData} {ps ks : List Str} {sp : Sp} {E : L2.St → XK} {x : Str} {p pos : Pos} {kws : List Keyword} {tk : TA} {g : List Value → List Value → List Value} {gV : List V → List V → List V}
theorem run_fnKS {pins : List (Addr × Obj)} {σ : L2.St} {H : Hp} {s : Shared} {Q : VK} {ws : List Value} {zs : List V} (F : FnOk X.prog X.w X.K X.mg X.base CX k f fd ps sp) (hr : Room k X.A) (hb : KBn X.K fd ps 0 ks g gV) (hx : PassesAt CX X σ (E σ))
    (I : L2.Inv X pins σ H s) (rz : Vals zs ws) (l2 : zs.length = ks.length) (h : sp (gV [] zs) H Q (E σ)) : wpAny (model X.prog X.w) X.A (call (.ref f) [] (ks.zip ws)) (EP X pins σ Q) X.xe s := by
  have r2 := hb.rel .nil rz
  refine wpAny_call (codeAny_mono (F.run X.A X.stack s H ⟨[], ks.zip ws⟩ (g [] ws) (gV [] zs) Q (E σ) hr I.env0 (hb.to s [] ws I.kIn rfl (rz.length.symm.trans l2)) r2 h) fun r s' hq => ?_)
  cases r with
  | error e => exact hx pins H s e s' I hq
  | ok fl =>
    cases fl with
    | ret u => exact I.after hq
    | next => exact False.elim hq
    | brk => exact False.elim hq
    | cont => exact False.elim hq
theorem pe_callKS (F : FnOk X.prog X.w X.K X.mg X.base CX k f fd ps sp) (hr : Room k X.A) (hg : Gl X x) (hm : X.mg x = some (.ref f)) (hk : PySem.W.keepIn X.K (.ref f) = true) (hb : KBn X.K fd ps 0 ks g gV) (hx : ∀ σ, PassesAt CX X σ (E σ))
    (hkw : PK X kws tk) (hall : (backToKw pos (keywordEach kws X.env)).all (·.1.isSome) = true := by rfl) (hks : (backToKw pos (keywordEach kws X.env)).filterMap (·.1) = ks := by rfl)
    (hdb : (x == ("__debug__" : Str)) = false := by decide) (hpl : ((backTo pos (starEach [] X.env)).any (·.1) || (backToKw pos (keywordEach kws X.env)).any (·.1.isNone)) = false := by rfl) :
    PE X (.Call (.Name x p) [] kws pos) (tCallKS ks.length sp gV E tk) := by
  constructor
  intro pins s σ H Q I h
  refine wpAny_Call_Name_kw (ld_glob I hg hm ?_ hdb)
  refine PySem.W.callWith_KW0 (h₀ := X.base) I.ok.mod.kin hk hall (thn (hkw.run pos pins s σ H _ I h) ?_) hpl
  rintro ws s2 ⟨zs, H2, I2, rz, l2, q2⟩
  refine ⟨I2.kIn, ?_⟩
  rw [hks]
  exact run_fnKS F hr hb (hx σ) I2 rz l2 q2
end
end Wk
set_option Elab.async false
set_option linter.all false
set_option maxRecDepth 100000
set_option maxHeartbeats 4000000
/-! same_order; what the law hears of both. -/
namespace LB
open PySem L2 Wk
def spSame (C : Addr) : Sp := fun vs H Q E => ∃ (t o te sc : Addr) (ones tens : List Str) (hun : Str) (scales : List Str) (t2 o2 te2 sc2 : Addr) (ones2 tens2 : List Str) (hun2 : Str) (scales2 : List Str), vs = [.ref t, .ref t2] ∧
  TabD H t ones tens hun scales o te sc ∧ TabD H t2 ones2 tens2 hun2 scales2 o2 te2 sc2 ∧
  (dueP (fault ones tens hun scales) (fault ones2 tens2 hun2 scales2) scales.length scales2.length = none → ∀ b H', Same H H' → Q (.bl b) H') ∧
  (∀ v, dueP (fault ones tens hun scales) (fault ones2 tens2 hun2 scales2) scales.length scales2.length = some v → ∀ d H', H d = none → Same H H' → H' d = some (.xd [("value", v)]) → E (.ref C) (some d) H')
def spToldD : Sp := fun vs H Q _ => ∃ (door : Int) (t o te sc : Addr) (ones tens : List Str) (hun : Str) (scales : List Str) (t2 o2 te2 sc2 : Addr) (ones2 tens2 : List Str) (hun2 : Str) (scales2 : List Str), vs = [.int door, .ref t, .ref t2] ∧
  TabD H t ones tens hun scales o te sc ∧ TabD H t2 ones2 tens2 hun2 scales2 o2 te2 sc2 ∧
  ∀ due, due = (if door = 0 ∨ door = 1 then dueP (fault ones tens hun scales) (fault ones2 tens2 hun2 scales2) scales.length scales2.length else dueP (fault ones2 tens2 hun2 scales2) (fault ones tens hun scales) scales2.length scales.length) →
    ∀ (L : Addr) (H' : Hp), H L = none → Same H H' → H' L = some (.lst (match due with | none => [.str "none", .non] | some v => [.str "table", v])) → Q (.ref L) H'
section
variable {P : Program} {w : World} {K : PySem.W.Frag} {mg : Str → Option Value} {base : Heap} {C0 C1 C2 C3 C4 C5 : Addr}
theorem scSame : FnScope ["first", "second"] ["first", "second"] (defScope sSame) := ⟨rfl, rfl, rfl, by decide +kernel, rfl, by decide +kernel, by decide +kernel⟩
theorem ok_same {f fP : Addr} {fd dP : FuncData} (F : Fun K "same_order" "same_order" sSame f fd) (A : DefX P w K mg base "parting_numbers" 5 fP dP ["first", "second"] (spPart C0)) : FnOk P w K mg base (L2.CX P w) 6 f fd ["first", "second"] (spSame C0) := by
  refine F.okX scSame (fun vs H Q E h => ?_) (fun cdv A outer s H vs Q E hr h => ?_)
  · obtain ⟨t, o, te, sc, ones, tens, hun, scales, t2, o2, te2, sc2, ones2, tens2, hun2, scales2, rfl, _⟩ := h
    rfl
  · obtain ⟨t, o, te, sc, ones, tens, hun, scales, t2, o2, te2, sc2, ones2, tens2, hun2, scales2, rfl, T1, T2, k, kE⟩ := h
    rename_i A'
    refine ⟨_, pss_one (ps_ret (pe_cmp (pc_isN (pe_call A'.ok hr (by rfl) A'.g A'.k A'.b .nil (passes_call (takes_of rfl rfl rfl rfl) (fun _ _ _ _ h => h)) (pa_cons (pv 0) (pa_cons (pv 1) pa_nil)))))), ?_⟩
    exact ⟨_, rfl, _, rfl, t, o, te, sc, ones, tens, hun, scales, t2, o2, te2, sc2, ones2, tens2, hun2, scales2, rfl, T1, T2, fun e r H' s _ => k e _ H' s, fun v e d H' n s m => kE v e d H' n s m⟩
end
end LB
set_option Elab.async false
set_option linter.all false
set_option maxRecDepth 100000
set_option maxHeartbeats 4000000
/-! repr of data of many parts: one bound for all. -/
namespace Wk
open PySem L2
/-- data whose text is not too long: w its weight, n its depth -/
structure Sh (w n : Nat) (d : PyData) : Prop where
  sh : d.showable = true
  nd : d.hasDict = false
  dp : d.depth ≤ n
  ls : d.leavesShort 640 = true
  wt : d.weight ≤ w
structure ShA (w n : Nat) (ds : List PyData) : Prop where
  sh : PyData.showableAll ds = true
  nd : PyData.hasDictAll ds = false
  dp : PyData.depthAll ds ≤ n
  ls : PyData.leavesShortAll 640 ds = true
  wt : PyData.weightAll ds ≤ w
theorem Sh.mono {w w' n n' : Nat} {d : PyData} (h : Sh w n d) (a : w ≤ w') (b : n ≤ n') : Sh w' n' d := ⟨h.sh, h.nd, Nat.le_trans h.dp b, h.ls, Nat.le_trans h.wt a⟩
theorem ShA.mono {w w' n n' : Nat} {ds : List PyData} (h : ShA w n ds) (a : w ≤ w') (b : n ≤ n') : ShA w' n' ds := ⟨h.sh, h.nd, Nat.le_trans h.dp b, h.ls, Nat.le_trans h.wt a⟩
theorem ShA.nil : ShA 0 0 [] := ⟨rfl, rfl, Nat.le_refl _, rfl, Nat.le_refl _⟩
theorem ShA.cons {w1 w2 n : Nat} {d : PyData} {ds : List PyData} (h : Sh w1 n d) (r : ShA w2 n ds) : ShA (w1 + 1 + w2) n (d :: ds) where
  sh := by rw [PyData.showableAll, h.sh, r.sh]; rfl
  nd := by rw [PyData.hasDictAll, h.nd, r.nd]; rfl
  dp := by rw [PyData.depthAll]; exact Nat.max_le.mpr ⟨h.dp, r.dp⟩
  ls := by rw [PyData.leavesShortAll, h.ls, r.ls]; rfl
  wt := by
    rw [PyData.weightAll]
    have a := h.wt
    have b := r.wt
    omega
theorem Sh.list {w n : Nat} {ds : List PyData} (h : ShA w n ds) : Sh w (n + 1) (.list ds) where
  sh := by rw [PyData.showable]; exact h.sh
  nd := by rw [PyData.hasDict]; exact h.nd
  dp := by rw [PyData.depth]; have := h.dp; omega
  ls := by rw [PyData.leavesShort]; exact h.ls
  wt := by rw [PyData.weight]; exact h.wt
theorem Sh.tup {w n : Nat} {ds : List PyData} (h : ShA w n ds) : Sh w (n + 1) (.tuple ds) where
  sh := by rw [PyData.showable]; exact h.sh
  nd := by rw [PyData.hasDict]; exact h.nd
  dp := by rw [PyData.depth]; have := h.dp; omega
  ls := by rw [PyData.leavesShort]; exact h.ls
  wt := by rw [PyData.weight]; exact h.wt
theorem Sh.none : Sh 0 0 .none := ⟨rfl, rfl, by decide, rfl, by decide⟩
theorem Sh.str {x : Str} {n : Nat} (h : x.length ≤ n) (c : ∀ c ∈ x.cps.toList, c < 128) : Sh n 0 (.str x) where
  sh := rfl
  nd := rfl
  dp := by rw [PyData.depth]; exact Nat.le_refl _
  ls := by
    simp only [PyData.leavesShort, List.all_eq_true, decide_eq_true_eq]
    intro y hy
    have := c y hy
    have e : (16 : Nat) ^ 8 = 4294967296 := by decide
    omega
  wt := h
theorem big_ten : (2 : Nat) ^ 1000 ≤ 10 ^ 400 := by
  have a : (2 : Nat) ^ 1000 = (2 ^ 10) ^ 100 := by rw [← Nat.pow_mul]
  have b : (10 : Nat) ^ 400 = (10 ^ 4) ^ 100 := by rw [← Nat.pow_mul]
  rw [a, b]
  exact Nat.pow_le_pow_left (by decide) 100
theorem Sh.int {i : Int} (h : i.natAbs < 2 ^ 1000) : Sh 1001 0 (.int i) where
  sh := by
    rw [PyData.showable]
    refine decide_eq_true ?_
    by_cases z : i.natAbs = 0
    · rw [z]
      decide
    · have q := (Nat.log2_lt z).mpr h
      omega
  nd := rfl
  dp := by rw [PyData.depth]; exact Nat.le_refl _
  ls := by
    rw [PyData.leavesShort]
    refine decide_eq_true ?_
    have e := int_text_length_le10 (k := 400) (by decide) (Nat.lt_of_lt_of_le h big_ten)
    show (Str.ofString (toString i)).length ≤ 640
    rw [ofString_length]
    omega
  wt := by
    rw [PyData.weight]
    split
    · exact Nat.zero_le _
    · by_cases z : i.natAbs = 0
      · rw [z]
        decide
      · have q := (Nat.log2_lt z).mpr h
        omega
theorem ShA.strs {m : Nat} : ∀ {ws : List Str}, (∀ x ∈ ws, x.length ≤ m ∧ ∀ c ∈ x.cps.toList, c < 128) → ShA ((m + 1) * ws.length) 0 (ws.map PyData.str)
  | [], _ => .nil
  | x :: ws, h => by
    refine (ShA.cons (Sh.str (h x List.mem_cons_self).1 (h x List.mem_cons_self).2) (ShA.strs fun y hy => h y (List.mem_cons_of_mem _ hy))).mono ?_ (Nat.le_refl _)
    rw [List.length_cons, Nat.mul_succ]
    omega
/-- what call_repr asks -/
theorem Sh.repr {w n : Nat} {d : PyData} {K : PySem.W.Frag} {v : V} {H : Hp} {Q : VK} (h : Sh w n d) (hw : w ≤ 20000) (hn : n ≤ 60) (r : Dp K H v d) (q : Q (.str d.shown) H) : rRepr K [v] H Q := by
  refine ⟨v, d, rfl, r, h.sh, h.nd, Nat.le_trans h.dp hn, .inl ?_, q⟩
  have z := PyData.shown_le 640 (by decide) d h.ls
  have y : (640 + 2) * d.weight ≤ 642 * 20000 := Nat.mul_le_mul_left _ (Nat.le_trans h.wt hw)
  rw [sizeLine_eq]
  omega
end Wk
set_option Elab.async false
set_option linter.all false
set_option maxRecDepth 100000
set_option maxHeartbeats 4000000
/-! Family D, errors of orders: both sides of a question. -/
namespace LB
open PySem L2 Wk
def bookD (ones tens : List Str) (hun : Str) (scales : List Str) : PyData := .tuple [.list (ones.map PyData.str), .list (tens.map PyData.str), .str hun, .list (scales.map PyData.str)]
theorem strsD {K : PySem.W.Frag} {H : Hp} : ∀ ws : List Str, DpAll K H (ws.map V.str) (ws.map PyData.str)
  | [] => .nil
  | x :: ws => .cons (.str x) (strsD ws)
theorem TabD.dp {K : PySem.W.Frag} {H : Hp} {t o te sc : Addr} {ones tens : List Str} {hun : Str} {scales : List Str} (T : TabD H t ones tens hun scales o te sc) : Dp K H (.ref t) (bookD ones tens hun scales) :=
  .tup (SqT.of T.at_.tup) (.cons (.lst (SqL.of T.at_.lo) (strsD _)) (.cons (.lst (SqL.of T.at_.lt) (strsD _)) (.cons (.str _) (.cons (.lst (SqL.of T.at_.ls) (strsD _)) .nil))))
theorem TabD.sh {H : Hp} {t o te sc : Addr} {ones tens : List Str} {hun : Str} {scales : List Str} (T : TabD H t ones tens hun scales o te sc) : Sh 2000 2 (bookD ones tens hun scales) := by
  have tm := T.tm
  have l1 := T.l1
  have l2 := T.l2
  have l3 := T.l3
  have a1 : ∀ x ∈ ones, x.length ≤ 21 ∧ ∀ c ∈ x.cps.toList, c < 128 := fun x hx => tame_ok (tm x (List.mem_append_left _ hx))
  have a2 : ∀ x ∈ tens, x.length ≤ 21 ∧ ∀ c ∈ x.cps.toList, c < 128 := fun x hx => tame_ok (tm x (List.mem_append_right _ (List.mem_append_left _ hx)))
  have a3 := tame_ok (tm hun (List.mem_append_right _ (List.mem_append_right _ List.mem_cons_self)))
  have a4 : ∀ x ∈ scales, x.length ≤ 21 ∧ ∀ c ∈ x.cps.toList, c < 128 := fun x hx => tame_ok (tm x (List.mem_append_right _ (List.mem_append_right _ (List.mem_cons_of_mem _ hx))))
  refine Sh.mono (Sh.tup (ShA.cons (Sh.list (ShA.strs a1)) (ShA.cons (Sh.list (ShA.strs a2)) (ShA.cons ((Sh.str a3.1 a3.2).mono (Nat.le_refl _) (Nat.zero_le 1)) (ShA.cons (Sh.list (ShA.strs a4)) (ShA.nil.mono (Nat.le_refl _) (Nat.zero_le 1))))))) ?_ (Nat.le_refl _)
  omega
def WrOk (v : V) : Prop := v = .non ∨ ∃ x, v = .str x ∧ tame x = true
def wrD : V → PyData
  | .str x => .str x
  | _ => .none
theorem WrOk.dp {K : PySem.W.Frag} {H : Hp} {v : V} (h : WrOk v) : Dp K H v (wrD v) := by
  rcases h with rfl | ⟨x, rfl, _⟩
  · exact .non
  · exact .str x
/-- what is due, as a list in the heap, and as data -/
def dueL : Option V → List V
  | none => [.str "none", .non]
  | some v => [.str "table", v]
def dueD : Option V → PyData
  | none => .list [.str "none", .none]
  | some v => .list [.str "table", wrD v]
def DueOk (e : Option V) : Prop := ∀ v, e = some v → WrOk v
theorem dueL_dp {K : PySem.W.Frag} {H : Hp} {e : Option V} {L : Addr} (ok : DueOk e) (h : H L = some (.lst (dueL e))) : Dp K H (.ref L) (dueD e) := by
  cases e with
  | none => exact .lst (SqL.of h) (.cons (.str _) (.cons .non .nil))
  | some v => exact .lst (SqL.of h) (.cons (.str _) (.cons (ok v rfl).dp .nil))
theorem strOk_tame {x : Str} (h : tame x = true) : PyData.strOk x = true := by
  have l := (tame_ok h).2
  unfold PyData.strOk
  rw [Array.all_eq_true]
  intro i hi
  have z := l x.cps[i] (Array.mem_toList_iff.mpr (Array.getElem_mem hi))
  exact decide_eq_true (by omega)
theorem dueD_lay {e : Option V} (ok : DueOk e) : (dueD e).canLay0 = true ∧ (dueD e).depth ≤ 1 := by
  have q1 : PyData.strOk ("none" : Str) = true := strOk_tame (by decide +kernel)
  have q2 : PyData.strOk ("table" : Str) = true := strOk_tame (by decide +kernel)
  cases e with
  | none => exact ⟨by simp [dueD, PyData.canLay0, PyData.canLayAll0, q1], by simp [dueD, PyData.depth, PyData.depthAll]⟩
  | some v =>
    rcases ok v rfl with rfl | ⟨x, rfl, tx⟩
    · exact ⟨by simp [dueD, wrD, PyData.canLay0, PyData.canLayAll0, q2], by simp [dueD, wrD, PyData.depth, PyData.depthAll]⟩
    · exact ⟨by simp [dueD, wrD, PyData.canLay0, PyData.canLayAll0, q2, strOk_tame tx], by simp [dueD, wrD, PyData.depth, PyData.depthAll]⟩
theorem three_ok {a b c : Option V} (ha : DueOk a) (hb : DueOk b) (hc : DueOk c) : SeqAt.shaped (.list [dueD a, dueD b, dueD c]) = true ∧ PyData.eqv (.list [dueD a, dueD b, dueD c]) (.list [dueD a, dueD b, dueD c]) = true := by
  obtain ⟨a1, a2⟩ := dueD_lay ha
  obtain ⟨b1, b2⟩ := dueD_lay hb
  obtain ⟨c1, c2⟩ := dueD_lay hc
  have lay : (PyData.list [dueD a, dueD b, dueD c]).canLay0 = true := by simp [PyData.canLay0, PyData.canLayAll0, a1, b1, c1]
  refine ⟨?_, SeqAt.eqv_refl _ lay⟩
  unfold SeqAt.shaped
  rw [lay, Bool.true_and, decide_eq_true_eq]
  simp only [PyData.depth, PyData.depthAll]
  omega
theorem fault_ok {ones tens : List Str} {hun : Str} {scales : List Str} {v : V} (tm : ∀ x ∈ ones ++ (tens ++ hun :: scales), tame x = true) (h : fault ones tens hun scales = some v) : WrOk v := by
  unfold fault at h
  split at h
  · exact .inl (Option.some.inj h).symm
  · have go : ∀ (l seen : List Str), (∀ x ∈ l, tame x = true) → firstBad seen l = some v → WrOk v := by
      intro l
      induction l with
      | nil => intro seen _ h; cases h
      | cons x r ih =>
        intro seen tl h
        rw [firstBad_cons] at h
        split at h
        · exact .inr ⟨x, (Option.some.inj h).symm, tl x List.mem_cons_self⟩
        · exact ih _ (fun y hy => tl y (List.mem_cons_of_mem _ hy)) h
    exact go _ _ tm h
/-- an object that is none of the three lists which the question writes to -/
def Calm3 (o : HO) : Prop := (∀ a b, o ≠ .lst [.ref a, .ref b]) ∧ ∀ i j k, o ≠ .lst [.int i, .int j, .int k]
def KeepX (G G' : Hp) : Prop := ∀ q o, G q = some o → Calm3 o → G' q = some o
theorem KeepX.trans {A B C : Hp} (a : KeepX A B) (b : KeepX B C) : KeepX A C := fun q o e h => b q o (a q o e h) h
theorem KeepX.of {A B : Hp} (a : Same A B) : KeepX A B := fun q o e _ => a q o e
theorem KeepX.pool {A B : Hp} {p : Addr} {d s c : Int} (R : RngAtD A p d s c) (k : KeepP p A B) : KeepX A B := fun q o e h => k q o e fun z => by
  rw [z, R.at_] at e
  exact h.2 _ _ _ (Option.some.inj e).symm
theorem KeepX.put {A : Hp} {q a b : Addr} {o : HO} (h : A q = some (.lst [.ref a, .ref b])) : KeepX A (upd A q o) := fun x u e c => by
  refine (upd_ne fun z => ?_).trans e
  rw [z, h] at e
  exact c.1 _ _ (Option.some.inj e).symm
theorem calm_strs (ws : List Str) : Calm3 (.lst (ws.map V.str)) := by
  constructor
  · intro a b e
    have e := HO.lst.inj e
    cases ws with
    | nil => cases e
    | cons x r => exact V.noConfusion (List.cons.inj e).1
  · intro i j k e
    have e := HO.lst.inj e
    cases ws with
    | nil => cases e
    | cons x r => exact V.noConfusion (List.cons.inj e).1
theorem calm_tup (xs : List V) : Calm3 (.tup xs) := ⟨fun _ _ e => (by cases e), fun _ _ _ e => (by cases e)⟩
theorem calm_nil : Calm3 (.lst []) := ⟨fun _ _ e => (by cases e), fun _ _ _ e => (by cases e)⟩
theorem calm_one (x : V) : Calm3 (.lst [x]) := ⟨fun _ _ e => (by cases e), fun _ _ _ e => (by cases e)⟩
theorem calm_two (x : Str) (y : V) : Calm3 (.lst [.str x, y]) := ⟨fun _ _ e => (by cases e), fun _ _ _ e => (by cases e)⟩
theorem TabD.keep {G G' : Hp} {t o te sc : Addr} {ones tens : List Str} {hun : Str} {scales : List Str} (T : TabD G t ones tens hun scales o te sc) (k : KeepX G G') : TabD G' t ones tens hun scales o te sc :=
  ⟨⟨k _ _ T.at_.tup (calm_tup _), k _ _ T.at_.lo (calm_strs _), k _ _ T.at_.lt (calm_strs _), k _ _ T.at_.ls (calm_strs _)⟩, T.l1, T.l2, T.l3, T.tm⟩
/-- one side: a table, and its list of what is wrong -/
def Flt (G : Hp) (n : Nat) (f : Addr) (scales : List Str) : Option V → List V → Prop
  | none, l => l = [] ∧ G f = some (.lst []) ∧ scales.length = n
  | some v, l => ∃ x, l = [.ref x] ∧ G f = some (.lst [.ref x]) ∧ G x = some (.lst [.str "table", v])
def Side (G : Hp) (n : Nat) (t f : Addr) (ones tens : List Str) (hun : Str) (scales : List Str) : Prop :=
  (∃ o te sc, TabD G t ones tens hun scales o te sc) ∧ ∃ l, Flt G n f scales (fault ones tens hun scales) l
theorem Flt.keep {G G' : Hp} {n : Nat} {f : Addr} {scales : List Str} {e : Option V} {l : List V} (h : Flt G n f scales e l) (k : KeepX G G') : Flt G' n f scales e l := by
  cases e with
  | none => exact ⟨h.1, k _ _ h.2.1 calm_nil, h.2.2⟩
  | some v =>
    obtain ⟨x, a, b, c⟩ := h
    exact ⟨x, a, k _ _ b (calm_one _), k _ _ c (calm_two _ _)⟩
theorem Flt.list {G : Hp} {n : Nat} {f : Addr} {scales : List Str} {e : Option V} {l : List V} (h : Flt G n f scales e l) : G f = some (.lst l) ∧ l.length ≤ 1 := by
  cases e with
  | none =>
    obtain ⟨rfl, b, _⟩ := h
    exact ⟨b, by decide⟩
  | some v =>
    obtain ⟨x, rfl, b, _⟩ := h
    exact ⟨b, Nat.le_refl _⟩
theorem Side.keep {G G' : Hp} {n : Nat} {t f : Addr} {ones tens : List Str} {hun : Str} {scales : List Str} (h : Side G n t f ones tens hun scales) (k : KeepX G G') : Side G' n t f ones tens hun scales := by
  obtain ⟨⟨o, te, sc, T⟩, l, h6⟩ := h
  exact ⟨⟨o, te, sc, T.keep k⟩, l, h6.keep k⟩
/-- the first of all that is wrong -/
theorem first_due {G : Hp} {n1 n2 : Nat} {f1 f2 y y2 : Addr} {s1 s2 : List Str} {e1 e2 : Option V} {l1 l2 dl : List V} (h1 : Flt G n1 f1 s1 e1 l1) (h2 : Flt G n2 f2 s2 e2 l2) (hd : (n1 = n2 → dl = []) ∧ (n1 ≠ n2 → dl = [.ref y]))
    (hy : G y = some (.lst [.str "table", .non])) (hy2 : G y2 = some (.lst [.str "none", .non])) : ∃ z rest, (l1 ++ l2) ++ (dl ++ [.ref y2]) = V.ref z :: rest ∧ G z = some (.lst (dueL (dueP e1 e2 s1.length s2.length))) := by
  cases e1 with
  | some v =>
    obtain ⟨x, rfl, _, c⟩ := h1
    exact ⟨x, _, rfl, c⟩
  | none =>
    obtain ⟨rfl, _, q1⟩ := h1
    cases e2 with
    | some v =>
      obtain ⟨x, rfl, _, c⟩ := h2
      exact ⟨x, _, rfl, c⟩
    | none =>
      obtain ⟨rfl, _, q2⟩ := h2
      rw [q1, q2]
      by_cases n : n1 = n2
      · rw [hd.1 n]
        refine ⟨y2, [], rfl, ?_⟩
        rw [hy2]
        show _ = some (HO.lst (dueL (if n1 = n2 then none else some .non)))
        rw [if_pos n]
        rfl
      · rw [hd.2 n]
        refine ⟨y, _, rfl, ?_⟩
        rw [hy]
        show _ = some (HO.lst (dueL (if n1 = n2 then none else some .non)))
        rw [if_neg n]
        rfl
theorem dueP_ok {f1 f2 : Option V} {n1 n2 : Nat} {v : V} (h1 : ∀ v, f1 = some v → WrOk v) (h2 : ∀ v, f2 = some v → WrOk v) (h : dueP f1 f2 n1 n2 = some v) : WrOk v := by
  cases f1 with
  | some x => exact h1 v h
  | none =>
    cases f2 with
    | some x => exact h2 v h
    | none =>
      unfold dueP at h
      simp only at h
      split at h
      · cases h
      · exact .inl (Option.some.inj h).symm
theorem good_of {ones tens : List Str} {hun : Str} {scales : List Str} (h : fault ones tens hun scales = none) : GoodRow (ones ++ (tens ++ hun :: scales)) := by
  have l := fault_lens h
  refine ⟨l.2.2, ?_⟩
  rw [fault_of l.1 l.2.1] at h
  exact (firstBad_none h).1
theorem fault_good {ones tens : List Str} {hun : Str} {scales : List Str} (l1 : ones.length = 20) (l2 : tens.length = 8) (g : GoodRow (ones ++ (tens ++ hun :: scales))) : fault ones tens hun scales = none := by
  rw [fault_of l1 l2]
  exact firstBad_good (by rw [List.nil_append]; exact g.nd) g.ok
theorem NewTab.tab {H H' : Hp} {t o te sc : Addr} {ones tens : List Str} {hun : Str} {scales : List Str} (T : NewTab H H' t o te sc ones tens hun scales) (l : scales.length ≤ 21) : TabD H' t ones tens hun scales o te sc :=
  ⟨T.at_, Nat.le_of_eq T.l1, by have := T.l2; omega, l, fun x hx => (T.good.ok x hx).tame⟩
theorem pick2 {a b r : Int} (h0 : 0 ≤ r) (h1 : r < 2) : ∃ w, atI [V.int a, V.int b] r = some (.int w) ∧ (w = a ∨ w = b) := by
  rcases (show r = 0 ∨ r = 1 by omega) with rfl | rfl
  · exact ⟨a, rfl, .inl rfl⟩
  · exact ⟨b, rfl, .inr rfl⟩
end LB
set_option Elab.async false
set_option linter.all false
set_option maxRecDepth 100000
set_option maxHeartbeats 4000000
/-! a < b for two lists of texts. -/
namespace Wk
open PySem PySem.Spec PyProof.Rows L2
/-- lists of texts, as they stand one before another -/
def ltW : List Str → List Str → Bool
  | _, [] => false
  | [], _ :: _ => true
  | x :: a, y :: b => if x.cps.toList < y.cps.toList then true else if x = y then ltW a b else false
theorem ltW_cons (x y : Str) (a b : List Str) : ltW (x :: a) (y :: b) = if x.cps.toList < y.cps.toList then true else if x = y then ltW a b else false := rfl
theorem strs_alike : ∀ a b : List Str, PySem.W.alikeAll (a.map PyData.str) (b.map PyData.str) = true
  | [], b => by cases b <;> simp [PySem.W.alikeAll]
  | x :: a, [] => by simp [PySem.W.alikeAll]
  | x :: a, y :: b => by
    rw [List.map_cons, List.map_cons, PySem.W.alikeAll, strs_alike a b]
    simp [PySem.W.alike]
theorem str_eq {x y : Str} (h : x.cps.toList = y.cps.toList) : x = y := by
  cases x
  cases y
  simp only at h
  rw [Array.toList_inj.mp h]
theorem blt_inr (x y : List Nat) : itemOrd.blt (.inr x) (.inr y) = decide (x < y) := rfl
theorem blt_inl (x y : Int) : itemOrd.blt (.inl x) (.inl y) = decide (x < y) := rfl
theorem lex_strs : ∀ a b : List Str, PyProof.Rows.lexLt itemOrd (PySem.W.keyToksAll (a.map PyData.str)) (PySem.W.keyToksAll (b.map PyData.str)) = ltW a b
  | [], [] => rfl
  | [], y :: b => by
    rw [List.map_nil, List.map_cons, PySem.W.keyToksAll, PySem.W.keyToksAll, lex_cons, blt_inl]
    rfl
  | x :: a, [] => by
    rw [List.map_nil, List.map_cons, PySem.W.keyToksAll, PySem.W.keyToksAll, lex_cons, blt_inl, blt_inl]
    rfl
  | x :: a, y :: b => by
    rw [List.map_cons, List.map_cons, PySem.W.keyToksAll, PySem.W.keyToksAll, lex_cons, blt_inl]
    rw [PySem.W.keyToks, PySem.W.keyToks, List.singleton_append, List.singleton_append, lex_cons, blt_inr, blt_inr, lex_strs a b]
    rw [ltW_cons]
    by_cases h1 : x.cps.toList < y.cps.toList
    · rw [if_pos h1, decide_eq_true h1]
      simp
    · rw [if_neg h1, decide_eq_false h1]
      by_cases h2 : y.cps.toList < x.cps.toList
      · have ne : x ≠ y := fun e => by
          rw [e] at h2
          exact List.lt_irrefl _ h2
        rw [if_neg ne, decide_eq_true h2]
        simp
      · have e : x = y := str_eq (List.le_antisymm h2 h1)
        rw [if_pos e, decide_eq_false h2]
        simp
theorem strs_dpA {K : PySem.W.Frag} {H : Hp} : ∀ ws : List Str, DpAll K H (ws.map V.str) (ws.map PyData.str)
  | [] => .nil
  | x :: ws => .cons (.str x) (strs_dpA ws)
theorem depth_strs : ∀ ws : List Str, PyData.depthAll (ws.map PyData.str) = 0
  | [] => rfl
  | x :: ws => by rw [List.map_cons, PyData.depthAll, depth_strs ws, PyData.depth]; rfl
def rLtL (K : PySem.W.Frag) : R2 := fun x y H Q => ∃ (a b : Addr) (xs ys : List Str), x = .ref a ∧ y = .ref b ∧ SqL K H a (xs.map V.str) ∧ SqL K H b (ys.map V.str) ∧ Q (.bl (ltW xs ys)) H
theorem op_ltL {X : Cx} (hu : X.A.units + 64 < cLine) : OpR X (compareOp .Lt) (rLtL X.K) := by
  intro pins s σ H x y v u Q I rx ry h
  obtain ⟨a, b, xs, ys, rfl, rfl, ha, hb, q⟩ := h
  obtain ⟨as, ra⟩ := Dp.reads I _ _ v (Dp.lst ha (strs_dpA xs)) rx
  obtain ⟨bs, rb⟩ := Dp.reads I _ _ u (Dp.lst hb (strs_dpA ys)) ry
  refine PySem.W.lt_data ra rb (by rw [PySem.W.alike]; exact strs_alike xs ys) (by simp) ?_ ?_
  · rw [PyData.depth, depth_strs]
    omega
  · rw [PySem.W.dataLt_list, lex_strs]
    exact ⟨.bl (ltW xs ys), H, I, rfl, q⟩
end Wk
set_option Elab.async false
set_option linter.all false
set_option maxRecDepth 100000
set_option maxHeartbeats 4000000
/-! Numbers compared, the program's own: copies of tables, the number's check. -/
namespace LB
open PySem L2 Wk
open Bg (Bg Wo)
def spCopied : Sp := fun vs H Q _ => ∃ (t o te sc : Addr) (ones tens : List Str) (hun : Str) (scales : List Str), vs = [.ref t] ∧ TabAt H t ones tens hun scales o te sc ∧
  ∀ (t' o' te' sc' : Addr) (H' : Hp), H t' = none → TabAt H' t' ones tens hun scales o' te' sc' → Same H H' → Q (.ref t') H'
def spChkN (C : Addr) : Sp := fun vs H Q E => ∃ (t o te sc : Addr) (ones tens : List Str) (hun : Str) (scales : List Str) (n : Int), vs = [.ref t, .int n] ∧ TabD H t ones tens hun scales o te sc ∧ fault ones tens hun scales = none ∧
  (0 ≤ n → n < Bg.W (scales.length + 1) → ∀ H', Same H H' → Q .non H') ∧ (¬ (0 ≤ n ∧ n < Bg.W (scales.length + 1)) → ∀ d H', H d = none → Same H H' → H' d = some (.xd [("value", .int n)]) → E (.ref C) (some d) H')
section
variable {P : Program} {w : World} {K : PySem.W.Frag} {mg : Str → Option Value} {base : Heap} {C0 C1 : Addr}
theorem scCopied : FnScope ["table", "ones", "tens", "hundred", "scales"] ["table"] (defScope sCopied) := ⟨rfl, rfl, rfl, by decide +kernel, rfl, by decide +kernel, by decide +kernel⟩
theorem ok_copied {f : Addr} {fd : FuncData} (F : Fun K "copied" "copied" sCopied f fd) (mS : mg "list" = none) : FnOk P w K mg base CX0 1 f fd ["table"] spCopied := by
  refine F.ok scCopied (fun vs H Q E h => ?_) (fun cdv A outer s H vs Q E hr h => ?_)
  · obtain ⟨t, o, te, sc, ones, tens, hun, scales, rfl, _⟩ := h
    rfl
  · obtain ⟨t, o, te, sc, ones, tens, hun, scales, rfl, TA, k⟩ := h
    refine ⟨_, pss_cons (ps_asg (pv 0) (pg_tup (by rfl) (pgs_cons (pg_name (i := 1) scCopied.nd rfl (.inl rfl)) (pgs_cons (pg_name (i := 2) scCopied.nd rfl (.inl rfl)) (pgs_cons (pg_name (i := 3) scCopied.nd rfl (.inl rfl)) (pgs_cons (pg_name (i := 4) scCopied.nd rfl (.inl rfl)) pgs_nil))))))
        (pss_one (ps_ret (pe_tup (pa_cons (pe_callTy call_list_of (by rfl) mS (by decide +kernel) (pa_cons (pv 1) pa_nil)) (pa_cons (pe_callTy call_list_of (by rfl) mS (by decide +kernel) (pa_cons (pv 2) pa_nil)) (pa_cons (pv 3) (pa_cons (pe_callTy call_list_of (by rfl) mS (by decide +kernel) (pa_cons (pv 4) pa_nil)) pa_nil))))))), ?_⟩
    refine ⟨_, rfl, t, _, rfl, SqT.of TA.tup, rfl, _, _, rfl, _, _, rfl, _, _, rfl, _, _, rfl, rfl, ?_⟩
    refine ⟨_, rfl, o, _, rfl, .inl (SqL.of TA.lo), fun a na => ?_⟩
    have s1 := same_more (x := .lst (ones.map V.str)) (Same.refl H) na
    refine ⟨_, rfl, te, _, rfl, .inl (SqL.of (s1 _ _ TA.lt)), fun b nb => ?_⟩
    have s2 := same_more (x := .lst (tens.map V.str)) s1 nb
    refine ⟨_, rfl, _, rfl, sc, _, rfl, .inl (SqL.of (s2 _ _ TA.ls)), fun e ne => ?_⟩
    have s3 := same_more (x := .lst (scales.map V.str)) s2 ne
    refine ⟨by show 4 ≤ sizeLine; decide, fun T nT => ?_⟩
    exact k T a b e _ (Same.free s3 nT) ⟨upd_same, upd_keep (upd_keep (upd_keep upd_same nb) ne) nT, upd_keep (upd_keep upd_same ne) nT, upd_keep upd_same nT⟩ (same_more s3 nT)
theorem scChkN : FnScope ["table", "number", "top"] ["table", "number"] (defScope sCheckNum) := ⟨rfl, rfl, rfl, by decide +kernel, rfl, by decide +kernel, by decide +kernel⟩
theorem ok_chkN {f fL I1 : Addr} {fd dL d1 : FuncData} (F : Fun K "check_number" "check_number" sCheckNum f fd) (L : DefX P w K mg base "limit" 4 fL dL ["table"] (spLimitX C0)) (F1 : ClsF P w K mg base "InvalidNumber" C1 I1 d1) :
    FnOk P w K mg base (L2.CX P w) 5 f fd ["table", "number"] (spChkN C1) := by
  refine F.okX scChkN (fun vs H Q E h => ?_) (fun cdv A outer s H vs Q E hr h => ?_)
  · obtain ⟨t, o, te, sc, ones, tens, hun, scales, n, rfl, _⟩ := h
    rfl
  · obtain ⟨t, o, te, sc, ones, tens, hun, scales, n, rfl, T, ff, kN, kE⟩ := h
    have hr2 : Room 2 _ := hr.mono (by decide)
    refine ⟨_, pss_cons (ps_set (i := 2) scChkN.nd rfl (.inl rfl) (pe_call L.ok hr (by rfl) L.g L.k L.b .nil (passes_call (takes_of rfl rfl rfl rfl) (fun _ _ _ _ h => h)) (pa_cons (pv 0) pa_nil)))
        (pss_one (ps_if (PW.pt (pw_or (pt_cmpR op_lt (pv 1) pe_int (nomark _)) (pw_or1 (pt_cmpR op_ge (pv 1) (pv 2) (nomark _))))) (pss_one (ps_raiseV F1 hr2 rfl (takes_of rfl rfl rfl rfl) rfl (pv 1))) pss_nil)), ?_⟩
    refine ⟨_, rfl, t, o, te, sc, ones, tens, hun, scales, rfl, T.at_, by have := T.l1; omega, by have := T.l2; omega, by have := T.l3; omega, T.short, fun hf H1 s1 => ?_, fun v hv d H' n s m => by rw [ff] at hv; cases hv⟩
    rw [limit_W]
    refine ⟨_, rfl, _, _, rfl, rfl, _, rfl, ite2 (fun c1 => ?_) (fun c1 => ?_)⟩
    · refine iteT ⟨_, rfl, mk_read fun d H' n s q => kE (fun z => ?_) d H' (Same.free s1 n) (Same.trans s1 s) q⟩
      have y := of_decide_eq_true c1
      omega
    · refine ⟨_, rfl, _, rfl, _, _, rfl, rfl, _, rfl, ite2 (fun c2 => ?_) (fun c2 => ?_)⟩
      · refine ⟨_, rfl, mk_read fun d H' n s q => kE (fun z => ?_) d H' (Same.free s1 n) (Same.trans s1 s) q⟩
        have y := of_decide_eq_true c2
        omega
      · have y1 : ¬ n < 0 := fun y => c1 (decide_eq_true y)
        have y2 : ¬ Bg.W (scales.length + 1) ≤ n := fun y => c2 (decide_eq_true y)
        exact kN (by omega) (by omega) _ s1
end
end LB
set_option Elab.async false
set_option linter.all false
set_option maxRecDepth 100000
set_option maxHeartbeats 4000000
/-! Numbers compared, the program's own: the hidden table. -/
namespace LB
open PySem L2 Wk
open Bg (Bg Wo)
structure HidC (K : PySem.W.Frag) (C : Addr) : Prop where
  cls : Cls K C
  nt : NoAttr K C "_table"
  nq : NoAttr K C "_questions"
/-- a hidden table stands in the heap: its own copy, and how often it was asked -/
def HidAt (H : Hp) (a C dx t : Addr) (q : Int) : Prop := H a = some (.ins C dx [("_table", .ref t), ("_questions", .int q)])
def spHInit (C C0 : Addr) : Sp := fun vs H Q E => ∃ (a dx t o te sc : Addr) (ones tens : List Str) (hun : Str) (scales : List Str), vs = [.ref a, .ref t] ∧ H a = some (.ins C dx []) ∧ TabD H t ones tens hun scales o te sc ∧
  (fault ones tens hun scales = none → ∀ (tc oc ec cc : Addr) (H' : Hp), H tc = none → TabAt H' tc ones tens hun scales oc ec cc → HidAt H' a C dx tc 0 → (∀ q u, H q = some u → q ≠ a → H' q = some u) → Q .non H') ∧
  (∀ v, fault ones tens hun scales = some v → ∀ d H', H d = none → Same H H' → H' d = some (.xd [("value", v)]) → E (.ref C0) (some d) H')
def spHScal (C : Addr) : Sp := fun vs H Q _ => ∃ (a dx t o te sc : Addr) (q : Int) (ones tens : List Str) (hun : Str) (scales : List Str), vs = [.ref a] ∧ HidAt H a C dx t q ∧ TabAt H t ones tens hun scales o te sc ∧ Q (.int (scales.length : Nat)) H
def spHQues (C : Addr) : Sp := fun vs H Q _ => ∃ (a dx t : Addr) (q : Int), vs = [.ref a] ∧ HidAt H a C dx t q ∧ Q (.int q) H
def nmD (ones tens : List Str) (hun : Str) (scales : List Str) (n : Int) : List Str := (Bg.nameW n (scales.length + 1)).map (wd ones tens hun scales)
def spHCome (C C1 : Addr) : Sp := fun vs H Q E => ∃ (a dx t o te sc : Addr) (q : Int) (ones tens : List Str) (hun : Str) (scales : List Str) (x y : Int), vs = [.ref a, .int x, .int y] ∧ HidAt H a C dx t q ∧ TabD H t ones tens hun scales o te sc ∧ fault ones tens hun scales = none ∧
  (¬ (0 ≤ x ∧ x < Bg.W (scales.length + 1)) → ∀ d H', H d = none → Same H H' → H' d = some (.xd [("value", .int x)]) → E (.ref C1) (some d) H') ∧
  (0 ≤ x → x < Bg.W (scales.length + 1) → ¬ (0 ≤ y ∧ y < Bg.W (scales.length + 1)) → ∀ d H', H d = none → Same H H' → H' d = some (.xd [("value", .int y)]) → E (.ref C1) (some d) H') ∧
  (0 ≤ x → x < Bg.W (scales.length + 1) → 0 ≤ y → y < Bg.W (scales.length + 1) → ∀ H' : Hp, HidAt H' a C dx t (q + 1) → (∀ r u, H r = some u → r ≠ a → H' r = some u) → Q (.bl (ltW (nmD ones tens hun scales x) (nmD ones tens hun scales y))) H')
section
variable {P : Program} {w : World} {K : PySem.W.Frag} {mg : Str → Option Value} {base : Heap} {CH C0 C1 : Addr}
theorem scHInit : FnScope ["self", "table"] ["self", "table"] (defScope (inClass cHiddenTable 0)) := ⟨rfl, rfl, rfl, by decide +kernel, rfl, by decide +kernel, by decide +kernel⟩
theorem ok_hInit {f fC fP : Addr} {fd dC dP : FuncData} (F : Fun K "__init__" "HiddenTable.__init__" (inClass cHiddenTable 0) f fd) (C : DefX P w K mg base "check_table" 3 fC dC ["table"] (spCheckX C0)) (Cp : Def1 P w K mg base "copied" 1 fP dP ["table"] spCopied) (HC : HidC K CH) :
    FnOk P w K mg base (L2.CX P w) 4 f fd ["self", "table"] (spHInit CH C0) := by
  refine F.okX scHInit (fun vs H Q E h => ?_) (fun cdv A outer s H vs Q E hr h => ?_)
  · obtain ⟨a, dx, t, o, te, sc, ones, tens, hun, scales, rfl, _⟩ := h
    rfl
  · obtain ⟨a, dx, t, o, te, sc, ones, tens, hun, scales, rfl, ha, T, k, kE⟩ := h
    have hr1 : Room 1 _ := hr.mono (by decide)
    refine ⟨_, pss_cons (ps_expr (pe_call C.ok hr (by rfl) C.g C.k C.b .nil (passes_call (takes_of rfl rfl rfl rfl) (fun _ _ _ _ h => h)) (pa_cons (pv 1) pa_nil)))
        (pss_cons (ps_fld (pv 0) (pe_call Cp.ok hr1 (by rfl) Cp.g Cp.k Cp.b .nil pass0 (pa_cons (pv 1) pa_nil)) rfl)
        (pss_one (ps_fld (pv 0) pe_int rfl))), ?_⟩
    refine ⟨_, rfl, t, o, te, sc, ones, tens, hun, scales, rfl, T.at_, by have := T.l1; omega, by have := T.l2; omega, by have := T.l3; omega, T.short, fun hf H1 s1 => ?_, fun v hv d H' n s m => kE v hv d H' n s m⟩
    refine ⟨_, rfl, t, o, te, sc, ones, tens, hun, scales, rfl, (T.same s1).at_, fun tc oc ec cc H2 nt T2 s2 => ?_⟩
    have s12 := Same.trans s1 s2
    have h2 := s12 _ _ ha
    refine ⟨_, rfl, a, CH, dx, [], rfl, h2, HC.cls, HC.nt, by decide, ?_⟩
    refine ⟨_, rfl, a, CH, dx, _, rfl, upd_same, HC.cls, HC.nq, by show 1 < 1000; decide, ?_⟩
    have ne : ∀ {q : Addr} {u : HO}, H2 q = some u → (∀ l, u ≠ .ins CH dx l) → q ≠ a := fun {q u} e n z => by
      rw [z, h2] at e
      exact n _ (Option.some.inj e).symm
    have up : ∀ {q : Addr} {u : HO}, H2 q = some u → (∀ l, u ≠ .ins CH dx l) → upd (upd H2 a (.ins CH dx [("_table", .ref tc)])) a (.ins CH dx [("_table", .ref tc), ("_questions", .int 0)]) q = some u := fun {q u} e n => (upd_ne (ne e n)).trans ((upd_ne (ne e n)).trans e)
    exact k hf tc oc ec cc _ (Same.free s1 nt) ⟨up T2.tup (fun _ z => by cases z), up T2.lo (fun _ z => by cases z), up T2.lt (fun _ z => by cases z), up T2.ls (fun _ z => by cases z)⟩ upd_same fun q u e n => (upd_ne n).trans ((upd_ne n).trans (s12 _ _ e))
theorem scHScal : FnScope ["self"] ["self"] (defScope (inClass cHiddenTable 1)) := ⟨rfl, rfl, rfl, by decide +kernel, rfl, by decide +kernel, by decide +kernel⟩
theorem ok_hScal {f : Addr} {fd : FuncData} (F : Fun K "scales" "HiddenTable.scales" (inClass cHiddenTable 1) f fd) (HC : HidC K CH) (mL : mg "len" = none) : FnOk P w K mg base CX0 1 f fd ["self"] (spHScal CH) := by
  refine F.ok scHScal (fun vs H Q E h => ?_) (fun cdv A outer s H vs Q E hr h => ?_)
  · obtain ⟨a, dx, t, o, te, sc, q, ones, tens, hun, scales, rfl, _⟩ := h
    rfl
  · obtain ⟨a, dx, t, o, te, sc, q, ones, tens, hun, scales, rfl, ha, T, k⟩ := h
    refine ⟨_, pss_one (ps_ret (pe_callB call_len_seq (by rfl) mL PySem.boot_len (pa_cons (pe_ix ix_tup (pe_fld (pv 0) rfl) pe_int (fun _ _ => rfl)) pa_nil))), ?_⟩
    refine ⟨_, rfl, a, CH, dx, _, _, rfl, ha, HC.cls, HC.nt, rfl, t, _, _, _, rfl, rfl, SqT.of T.tup, rfl, sc, _, rfl, .inl (SqL.of T.ls), ?_⟩
    rw [List.length_map]
    exact k
theorem scComes : FnScope ["self", "first", "second", "answer"] ["self", "first", "second"] (defScope (inClass cHiddenTable 3)) := ⟨rfl, rfl, rfl, by decide +kernel, rfl, by decide +kernel, by decide +kernel⟩
theorem ok_hCome {f fN fS : Addr} {fd dN dS : FuncData} (F : Fun K "comes_before" "HiddenTable.comes_before" (inClass cHiddenTable 3) f fd) (N : DefX P w K mg base "check_number" 5 fN dN ["table", "number"] (spChkN C1)) (S : Def1 P w K mg base "spelled" 2 fS dS ["table", "number"] spSpelled) (HC : HidC K CH) :
    FnOk P w K mg base (L2.CX P w) 6 f fd ["self", "first", "second"] (spHCome CH C1) := by
  refine F.okX scComes (fun vs H Q E h => ?_) (fun cdv A outer s H vs Q E hr h => ?_)
  · obtain ⟨a, dx, t, o, te, sc, q, ones, tens, hun, scales, x, y, rfl, _⟩ := h
    rfl
  · obtain ⟨a, dx, t, o, te, sc, q, ones, tens, hun, scales, x, y, rfl, ha, T, ff, kE1, kE2, k⟩ := h
    have hr2 : Room 2 _ := hr.mono (by decide)
    refine ⟨_, pss_cons (ps_expr (pe_call N.ok hr (by rfl) N.g N.k N.b .nil (passes_call (takes_of rfl rfl rfl rfl) (fun _ _ _ _ h => h)) (pa_cons (pe_fld (pv 0) rfl) (pa_cons (pv 1) pa_nil))))
        (pss_cons (ps_expr (pe_call N.ok hr (by rfl) N.g N.k N.b .nil (passes_call (takes_of rfl rfl rfl rfl) (fun _ _ _ _ h => h)) (pa_cons (pe_fld (pv 0) rfl) (pa_cons (pv 2) pa_nil))))
        (pss_cons (ps_set (i := 3) scComes.nd rfl (.inl rfl) (pe_cmpR (op_ltL hr.units) (pe_call S.ok hr2 (by rfl) S.g S.k S.b .nil pass0 (pa_cons (pe_fld (pv 0) rfl) (pa_cons (pv 1) pa_nil))) (pe_call S.ok hr2 (by rfl) S.g S.k S.b .nil pass0 (pa_cons (pe_fld (pv 0) rfl) (pa_cons (pv 2) pa_nil))) (nomark _)))
        (pss_cons (ps_fld (pv 0) (pe_op op_add (pe_fld (pv 0) rfl) pe_int) rfl)
        (pss_one (ps_ret (pv 3)))))), ?_⟩
    have l3 := T.l3
    obtain ⟨l20, l8, _⟩ := fault_lens ff
    refine ⟨_, rfl, a, CH, dx, _, _, rfl, ha, HC.cls, HC.nt, rfl, _, rfl, t, o, te, sc, ones, tens, hun, scales, x, rfl, T, ff, fun x0 x1 H1 s1 => ?_, fun n d H' nd s m => kE1 n d H' nd s m⟩
    refine ⟨_, rfl, a, CH, dx, _, _, rfl, s1 _ _ ha, HC.cls, HC.nt, rfl, _, rfl, t, o, te, sc, ones, tens, hun, scales, y, rfl, T.same s1, ff, fun y0 y1 H2 s2 => ?_, fun n d H' nd s m => kE2 x0 x1 n d H' (Same.free s1 nd) (Same.trans s1 s) m⟩
    have s12 := Same.trans s1 s2
    refine ⟨_, rfl, a, CH, dx, _, _, rfl, s12 _ _ ha, HC.cls, HC.nt, rfl, _, rfl, t, o, te, sc, ones, tens, hun, scales, x, rfl, (T.same s12).at_, l20, l8, by omega, x0, x1, fun p H3 np s3 hp => ?_⟩
    have s13 := Same.trans s12 s3
    refine ⟨_, rfl, a, CH, dx, _, _, rfl, s13 _ _ ha, HC.cls, HC.nt, rfl, _, rfl, t, o, te, sc, ones, tens, hun, scales, y, rfl, (T.same s13).at_, l20, l8, by omega, y0, y1, fun r H4 nr s4 hr4 => ?_⟩
    have s14 := Same.trans s13 s4
    refine ⟨p, r, _, _, rfl, rfl, SqL.of (s4 _ _ hp), SqL.of hr4, ?_⟩
    refine ⟨_, rfl, a, CH, dx, _, _, rfl, s14 _ _ ha, HC.cls, HC.nq, rfl, _, _, rfl, rfl, _, rfl, a, CH, dx, _, rfl, s14 _ _ ha, HC.cls, HC.nq, by show 2 < 1000; decide, ?_⟩
    exact ⟨_, rfl, k x0 x1 y0 y1 _ upd_same fun r u e n => (upd_ne n).trans (s14 _ _ e)⟩
end
end LB
set_option Elab.async false
set_option linter.all false
set_option maxRecDepth 100000
set_option maxHeartbeats 4000000
/-! Methods and classes called where an error is due at the caller's slots; a method called by keywords alone. -/
namespace Wk
open PySem PySem.Spec PyProof.Rows L2
def tMethAt (C : Addr) (m : Str) (sp : Sp) (E : L2.St → XK) (ta : TE) (t : TA) : TE := fun σ H Q => ta σ H fun x H1 => ∃ a dx fs, x = .ref a ∧ H1 a = some (.ins C dx fs) ∧ fs.lookup m = none ∧ t σ H1 fun vs H2 => sp (x :: vs) H2 Q (E σ)
def tMethKAt (C : Addr) (m : Str) (n : Nat) (sp : Sp) (gV : List V → List V → List V) (E : L2.St → XK) (ta : TE) (tk : TA) : TE := fun σ H Q => ta σ H fun x H1 => ∃ a dx fs, x = .ref a ∧ H1 a = some (.ins C dx fs) ∧ fs.lookup m = none ∧ tk σ H1 fun zs H2 => zs.length = n ∧ sp (gV [x] zs) H2 Q (E σ)
def tMakeAt (C : Addr) (sp : Sp) (E : L2.St → XK) (t : TA) : TE := fun σ H Q => t σ H fun vs H1 => ∀ x dx, H1 x = none → H1 dx = none → dx ≠ x → sp (.ref x :: vs) (upd (upd H1 dx (.own x)) x (.ins C dx [])) (fun v H2 => v = .non ∧ Q (.ref x) H2) (E σ)
section
variable {X : Cx} {CX : CXT} {k : Nat} {f C : Addr} {fd : FuncData} {ps ks : List Str} {sp : Sp} {E : L2.St → XK} {x m : Str} {p pos apos : Pos} {e o : Expr} {es : List Expr} {kws : List Keyword} {ta : TE} {t tk : TA} {g : List Value → List Value → List Value} {gV : List V → List V → List V}
theorem pe_methAt {pl : Sem Bool} (he : PE X o ta) (c : Cls X.K C) (hm : Meth X.K C m f) (F : FnOk X.prog X.w X.K X.mg X.base CX k f fd ps sp) (room : Room k X.A) (hb : Binds X.K fd ps []) (hx : ∀ σ, PassesAt CX X σ (E σ)) (ha : PA X (e :: es) t)
    (s1 : starEach (e :: es) X.env = (false, eval e X.env) :: starEach es X.env := by rfl) (s2 : (backTo pos (starEach es X.env)).any (·.1) = false := by rfl)
    (s3 : eval (.Call (.Attribute o m apos) (e :: es) [] pos) X.env = (do
      let ov ← eval o X.env
      standAt apos.atName
      let (f, first) ← holding [ov] (getMethod ov m pl)
      callWith pos f first (backTo pos (starEach (e :: es) X.env)) (backToKw pos (keywordEach [] X.env))) := by rfl) :
    PE X (.Call (.Attribute o m apos) (e :: es) [] pos) (tMethAt C m sp E ta t) := by
  constructor
  intro pins s σ H Q I h
  refine PySem.W.methodCall_KW (pl := pl) (thn (he.run pins s σ H _ I h) ?_) s3
  rintro u s1' ⟨x, H1, I1, rx, a, dx, fs, rfl, ea, l, q⟩
  obtain rfl : u = Value.ref a := rx
  refine getmeth_ok I1 ea c hm l ?_
  refine PySem.W.callWith_K (first := [.ref a]) (h₀ := X.base) I.ok.mod.kin hm.kp (thn (ha.run pos pins s1' σ H1 _ I1 q) ?_) s1 s2
  rintro us s2' ⟨vs, H2, I2, r, q2⟩
  exact ⟨I2.kIn, run_fnS (us := .ref a :: us) (vs := .ref a :: vs) F room hb (hx σ) I2 (.cons rfl r) q2⟩
theorem pe_methKAt {pl : Sem Bool} (he : PE X o ta) (c : Cls X.K C) (hm : Meth X.K C m f) (F : FnOk X.prog X.w X.K X.mg X.base CX k f fd ps sp) (room : Room k X.A) (hb : KBn X.K fd ps 1 ks g gV) (hx : ∀ σ, PassesAt CX X σ (E σ)) (hkw : PK X kws tk)
    (hall : (backToKw pos (keywordEach kws X.env)).all (·.1.isSome) = true := by rfl) (hks : (backToKw pos (keywordEach kws X.env)).filterMap (·.1) = ks := by rfl)
    (s2 : ((backTo pos (starEach [] X.env)).any (·.1) || (backToKw pos (keywordEach kws X.env)).any (·.1.isNone)) = false := by rfl)
    (s3 : eval (.Call (.Attribute o m apos) [] kws pos) X.env = (do
      let ov ← eval o X.env
      standAt apos.atName
      let (f, first) ← holding [ov] (getMethod ov m pl)
      callWith pos f first (backTo pos (starEach [] X.env)) (backToKw pos (keywordEach kws X.env))) := by rfl) :
    PE X (.Call (.Attribute o m apos) [] kws pos) (tMethKAt C m ks.length sp gV E ta tk) := by
  constructor
  intro pins s σ H Q I h
  refine PySem.W.methodCall_KW (pl := pl) (thn (he.run pins s σ H _ I h) ?_) s3
  rintro u s1' ⟨x, H1, I1, rx, a, dx, fs, rfl, ea, l, q⟩
  obtain rfl : u = Value.ref a := rx
  refine getmeth_ok I1 ea c hm l ?_
  refine PySem.W.callWith_KW0 (first := [.ref a]) (h₀ := X.base) I.ok.mod.kin hm.kp hall (thn (hkw.run pos pins s1' σ H1 _ I1 q) ?_) s2
  rintro ws s2' ⟨zs, H2, I2, rz, l2, q2⟩
  refine ⟨I2.kIn, ?_⟩
  rw [hks]
  have r2 := hb.rel (.cons rfl .nil : Vals [V.ref a] [Value.ref a]) rz
  refine wpAny_call (codeAny_mono (F.run X.A X.stack s2' H2 ⟨[.ref a], ks.zip ws⟩ (g [.ref a] ws) (gV [.ref a] zs) Q (E σ) room I2.env0 (hb.to s2' [.ref a] ws I2.kIn rfl (rz.length.symm.trans l2)) r2 q2) fun r s' hq => ?_)
  cases r with
  | error er => exact hx σ pins H2 s2' er s' I2 hq
  | ok fl =>
    cases fl with
    | ret u => exact I2.after hq
    | next => exact False.elim hq
    | brk => exact False.elim hq
    | cont => exact False.elim hq
theorem pe_makeAt (M : Mk X.K C f) (F : FnOk X.prog X.w X.K X.mg X.base CX k f fd ps sp) (room : Room (k + 1) X.A) (hg : Gl X x) (hm : X.mg x = some (.ref C)) (hb : Binds X.K fd ps []) (hx : ∀ σ, PassesAt CX X σ (E σ)) (ha : PA X (e :: es) t)
    (s0 : (x == ("__debug__" : Str)) = false := by decide) (s1 : starEach (e :: es) X.env = (false, eval e X.env) :: starEach es X.env := by rfl) (s2 : (backTo pos (starEach es X.env)).any (·.1) = false := by rfl) :
    PE X (.Call (.Name x p) (e :: es) [] pos) (tMakeAt C sp E t) := by
  constructor
  intro pins s σ H Q I h
  refine wpAny_Call_Name_kw (ld_glob I hg hm ?_ s0)
  refine PySem.W.callWith_K (h₀ := X.base) I.ok.mod.kin M.kp (thn (ha.run pos pins s σ H _ I h) ?_) s1 s2
  rintro us s1' ⟨vs, H1, I1, r, q⟩
  refine ⟨I1.kIn, ?_⟩
  have want := q (s1'.heap.objs.size + 1) s1'.heap.objs.size (I1.hok.fresh (Nat.le_succ _)) (I1.hok.fresh (Nat.le_refl _)) (Nat.ne_of_lt (Nat.lt_succ_self _))
  have I2 := Inv.made (C := C) I1
  have r2 : Vals (V.ref (s1'.heap.objs.size + 1) :: vs) (Value.ref (s1'.heap.objs.size + 1) :: us) := .cons rfl r
  have hl : (Value.ref (s1'.heap.objs.size + 1) :: us).length = ps.length := by
    have e := r2.length
    rw [F.len _ _ _ _ want] at e
    exact e.symm
  refine wpAny_call (make_map (f := f) I1.kIn M.makes M.init (beq_iff_eq.mp M.fn) (codeAny_mono (F.run _ X.stack _ _ ⟨Value.ref (s1'.heap.objs.size + 1) :: us, []⟩ (Value.ref (s1'.heap.objs.size + 1) :: us) _ _ (E σ) (room.make C us [])
    (I2.env0.make C us []) (by have z := hb _ (Value.ref (s1'.heap.objs.size + 1) :: us) I2.kIn (by rw [List.append_nil]; exact hl); rw [List.append_nil] at z; exact z) r2 want) fun r s' hq' => ?_))
  cases r with
  | error er => exact hx σ pins _ _ er s' I2 hq'
  | ok fl =>
    cases fl with
    | ret u =>
      obtain ⟨v, H', I3, rv, ev, q3⟩ := I2.after hq'
      subst ev
      exact ⟨rv, ⟨V.ref (s1'.heap.objs.size + 1), H', I3, rfl, q3⟩⟩
    | next => exact False.elim hq'
    | brk => exact False.elim hq'
    | cont => exact False.elim hq'
end
end Wk
set_option Elab.async false
set_option linter.all false
set_option maxRecDepth 100000
set_option maxHeartbeats 4000000
/-! try .. except X as n, where the suite works with the error (gives it to defs, reads its fields) and may return: the error is tracked from the suite's start. Defs that run whatever error is handled. -/
namespace Wk
open PySem PySem.Spec PyProof.Rows L2
/-! ### the same state, whatever is handled -/
/-- a context with other surroundings and another wish -/
abbrev hotX (X : Cx) (B : Around) (xe : Value → Shared → Prop) : Cx := { X with A := B, calm := false, xe := xe }
theorem okHot {X : Cx} {B : Around} {xe : Value → Shared → Prop} (o : X.Ok) (hA : B.frames = X.A.frames) : (hotX X B xe).Ok where
  mod := o.mod
  kind := o.kind
  glob := o.glob
  blt := o.blt
  above := o.above
  inj := o.inj
  has := o.has
  cab := o.cab
  hd := fun z => Bool.noConfusion z
  frames := hA.trans o.frames
  stk := o.stk
  exf := o.exf
  bs := o.bs
  bsz := o.bsz
  noex := o.noex
  exfs := o.exfs
  funs := o.funs
  frf := o.frf
theorem invHot {X : Cx} {B : Around} {xe : Value → Shared → Prop} {pins : List (Addr × Obj)} {σ : L2.St} {H : Hp} {s : Shared} (I : L2.Inv X pins σ H s) (hA : B.frames = X.A.frames) : L2.Inv (hotX X B xe) pins σ H s where
  ok := okHot I.ok hA
  os := I.os
  bare := I.bare
  base := I.base
  loc := I.loc
  cell := I.cell
  free := I.free
  freeC := I.freeC
  pin := I.pin
  hok := I.hok
  len := I.len
/-- no exception is handled there -/
abbrev quietA (A : Around) : Around := { A with handled := none }
theorem env0_quiet {P : Program} {w : World} {K : PySem.W.Frag} {mg : Str → Option Value} {base : Heap} {A : Around} {out : List Env} {s : Shared} {H : Hp} (e : Env0 P w K mg base A out s H) : Env0 P w K mg base (quietA A) out s H where
  frames := e.frames
  mod := e.mod
  bs := e.bs
  bsz := e.bsz
  funs := e.funs
  frf := e.frf
  hok := e.hok
  bare := e.bare
/-- a def's promise, whatever exception is handled around it -/
structure FnA (P : Program) (w : World) (K : PySem.W.Frag) (mg : Str → Option Value) (base : Heap) (CX : CXT)
    (k : Nat) (f : Addr) (fd : FuncData) (ps : List Str) (sp : Sp) : Prop where
  args : ∀ vs H Q E, sp vs H Q E → vs.length = ps.length
  go : ∀ (A : Around) (out : List Env) (s : Shared) (H : Hp) (ar : Args) (us : List Value) (vs : List V) (Q : VK) (E : XK),
    L2H.RoomH k A → Env0 P w K mg base A out s H → BindsTo s fd ar (ps.zip us) → Vals vs us →
    sp vs H Q E → codeAny (model P w) A (.call (.ref f) ar) (CR CX out P w H s Q E) s
/-- its body's context -/
abbrev cxAny (CX : CXT) (P : Program) (w : World) (K : PySem.W.Frag) (mg : Str → Option Value) (base : Heap) (N : List Str) (qual : Str) (scope : Scope) (f : Addr) (cd : Value) (A : Around) (outer : List Env) (s : Shared) (H : Hp) (E : XK) : Cx :=
  { cxOf CX P w K mg base N qual scope f cd A outer s H E with calm := false }
section
variable {P : Program} {w : World} {K : PySem.W.Frag} {mg : Str → Option Value} {base : Heap} {CX : CXT}
variable {k : Nat} {f : Addr} {fd : FuncData} {ps : List Str} {sp : Sp}
theorem fnA_of {name qual : Str} {params : Arguments} {body : List Stmt} {scope : Scope} {dV kV doc pm cdv ct oc : Value} {an od : Option Addr}
    {osl : Array (Option Value)} {N : List Str}
    (lk : K.lookup f = some ⟨oc, od, .func (PySem.W.fnOf name qual params body scope dV kV doc pm an cdv ct), osl⟩)
    (code : PySem.W.codeIn K cdv qual = true) (S : FnScope N ps scope) (args : ∀ vs H Q E, sp vs H Q E → vs.length = ps.length)
    (hb : ∀ (A : Around) (out : List Env) (s : Shared) (H : Hp) (vs : List V) (Q : VK) (E : XK),
      L2H.RoomH k (A.deeper (envOfC qual scope s.heap.objs.size f cdv)) → sp vs H Q E →
      ∃ t, PSs (cxAny CX P w K mg base N qual scope f cdv A out s H E) body t ∧ t { nx := fun _ H' => Q .non H', rt := Q } (start N vs) H) :
    FnA P w K mg base CX (k + 1) f (PySem.W.fnOf name qual params body scope dV kV doc pm an cdv ct) ps sp := by
  refine ⟨args, ?_⟩
  intro A out s H ar us vs Q E room e0 bt rv want
  have nargs := args vs H Q E want
  have inK : K.In s.heap := e0.mod.kin.keeps (fun b o z => (e0.bs b o z).1)
  have noL : s.heap.NoLimit := e0.mod.nolimit.keeps (fun b o z => (e0.bs b o z).1)
  have kinds : ∀ y ∈ ps.zip us, scope.names.lookup y.1 = some .local ∨
      (scope.names.lookup y.1 = some .cell ∧ ((cellsFrom (s.heap.objs.size + 1) scope.names []).lookup y.1).isSome = true) := by
    intro y hy
    have hm := (List.of_mem_zip (show (y.1, y.2) ∈ ps.zip us from hy)).1
    cases S.par y.1 hm with
    | inl q => exact Or.inl q
    | inr q => exact Or.inr ⟨q, PySem.W.cellsFrom_some _ _ _ (Or.inl q)⟩
  refine codeAny_call_function room.depth (inK _ _ lk) rfl S.co S.gen rfl (PySem.W.codeRec_of inK code) (bt _ _ _ _ ?_)
  refine wpAny_newFunctionEnv_cells S.kind kinds fun env he s1 x => ?_
  cases he
  refine ⟨noL.keeps x.toInCall.keep, codeAny_func ?_⟩
  obtain ⟨t, ht, hq⟩ := hb A out s H vs Q E (room.deeper _) want
  have I0 := inv_start (CX := CX) (P := P) (w := w) (K := K) (mg := mg) (base := base) (E := E) (A := quietA A) S rfl (env0_quiet e0) nargs rv x
  have I : L2.Inv (cxAny CX P w K mg base N qual scope f cdv A out s H E) [] (start N vs) H s1 :=
    invHot (X := cxOf CX P w K mg base N qual scope f cdv (quietA A) out s H E) (B := A.deeper (envOfC qual scope s.heap.objs.size f cdv)) (xe := (cxOf CX P w K mg base N qual scope f cdv A out s H E).xe) I0 rfl
  refine wpAny_mono (ht.run [] s1 (start N vs) H _ I hq) ?_ (fun _ _ z => z)
  intro fl s' hs
  cases fl with
  | ret u =>
    obtain ⟨v, σ', H', J, r', q⟩ := hs
    exact ⟨v, H', J.os, J.bare, J.base, J.hok, r', q⟩
  | next =>
    obtain ⟨σ', H', J, q⟩ := hs
    exact ⟨V.non, H', J.os, J.bare, J.base, J.hok, rfl, q⟩
  | brk => obtain ⟨_, _, _, q⟩ := hs; exact q.elim
  | cont => obtain ⟨_, _, _, q⟩ := hs; exact q.elim
end
/-- .. where nothing leaves the def -/
theorem okA {P : Program} {w : World} {K : PySem.W.Frag} {mg : Str → Option Value} {base : Heap} {x qual : Str} {st : Stmt} {f : Addr} {fd : FuncData}
    {N ps : List Str} {k : Nat} {sp : Sp} (F : Fun K x qual st f fd) (S : FnScope N ps (defScope st)) (args : ∀ vs H Q E, sp vs H Q E → vs.length = ps.length)
    (hb : ∀ (cdv : Value) (A : Around) (out : List Env) (s : Shared) (H : Hp) (vs : List V) (Q : VK) (E : XK),
      L2H.RoomH k (A.deeper (envOfC qual (defScope st) s.heap.objs.size f cdv)) → sp vs H Q E →
      ∃ t, PSs (cxAny CX0 P w K mg base N qual (defScope st) f cdv A out s H E).nox (defBody st) t ∧ t { nx := fun _ H' => Q .non H', rt := Q } (start N vs) H) :
    FnA P w K mg base CX0 (k + 1) f fd ps sp := by
  obtain ⟨oc, od, kV, doc, pm, an, cdv, ct, osl, rfl, lk, code⟩ := F.ex
  refine fnA_of lk code S args ?_
  intro A out s H vs Q E room want
  obtain ⟨t, h, q⟩ := hb cdv A out s H vs Q E room want
  exact ⟨t, h.nox, q⟩
section
variable {X : Cx} {CX : CXT} {k : Nat} {f : Addr} {fd : FuncData} {ps : List Str} {sp : Sp} {E : XK}
/-- f(e, ..) of such a def -/
theorem pe_callA {x : Str} {p pos : Pos} {e : Expr} {es : List Expr} {t : TA} (F : FnA X.prog X.w X.K X.mg X.base CX k f fd ps sp) (hr : L2H.RoomH k X.A)
    (hg : Gl X x) (hm : X.mg x = some (.ref f)) (hk : PySem.W.keepIn X.K (.ref f) = true) (hb : Binds X.K fd ps []) (hx : Passes CX X E) (ha : PA X (e :: es) t)
    (hdb : (x == ("__debug__" : Str)) = false := by decide) (he : starEach (e :: es) X.env = (false, eval e X.env) :: starEach es X.env := by rfl)
    (hpl : (backTo pos (starEach es X.env)).any (·.1) = false := by rfl) :
    PE X (.Call (.Name x p) (e :: es) [] pos) (tCall sp [] E t) := by
  constructor
  intro pins s σ H Q I h
  refine wpAny_Call_Name_kw (ld_glob I hg hm ?_ hdb)
  refine PySem.W.callWith_K (h₀ := X.base) I.ok.mod.kin hk (thn (ha.run pos pins s σ H _ I h) ?_) he hpl
  rintro us s1 ⟨vs, H1, I1, r, q⟩
  refine ⟨I1.kIn, ?_⟩
  have r2 : Vals (vs ++ []) (us ++ []) := r.append .nil
  have hl : (us ++ []).length = ps.length := r2.length.symm.trans (F.args _ _ _ _ q)
  refine wpAny_call (codeAny_mono (F.go X.A X.stack s1 H1 ⟨us, []⟩ (us ++ []) (vs ++ []) Q E hr I1.env0 (hb s1 us I1.kIn hl) r2 q) ?_)
  intro r s' hq
  match r, hq with
  | .error e, hq => exact hx pins σ H1 s1 e s' I1 hq
  | .ok (.ret u), hq => exact I1.after hq
end
/-- a field of a caught error, K told -/
theorem pe_xhK {X : Cx} {e : Expr} {te : TE} {pos : Pos} {f : Str} (K0 : PySem.W.Frag) (hK : X.K = K0) (he : PE X e te) (hb : attributeBase e f X.env (eval e X.env) = eval e X.env := by rfl) : PE X (.Attribute e f pos) (tXh K0 f te) := by
  subst hK
  exact pe_xh he hb
/-! ### the error is tracked within the suite -/
/-- what the clause wishes: its suite, with the error in slot i and in the heap -/
def wRet (K : PySem.W.Frag) (c : Value) (i : Nat) (ts : Addr → Value → Option Addr → TS) (Wout : WX) (D : Ends) : WX := fun cls d σ H =>
  ∃ b, PySem.W.exmOne K cls c = some b ∧
    (b = true → ∀ a, H a = none → ts a cls d { nx := fun τ G => D.nx (τ.set i none) G, rt := D.rt, bk := fun τ G => D.bk (τ.set i none) G, ct := fun τ G => D.ct (τ.set i none) G } (σ.set i (some (.ref a))) (upd H a (ExH cls d a))) ∧
    (b = false → Wout cls d σ H)
section
variable {X : Cx} {x n : Str} {c : Value} {i : Nat} {body suite : List Stmt} {b0 : Stmt} {np pos pos' : Pos} {tb : WX → TS} {ts : Addr → Value → Option Addr → TS} {Wout : WX}
theorem inv_unpin {pins : List (Addr × Obj)} {σ : L2.St} {H : Hp} {s : Shared} {a : Addr} {q : Addr × Obj} (I : L2.Inv (X.suite a (q :: (X.pn ++ pins))) [] σ H s) (ok : X.Ok) : L2.Inv (X.suite a (X.pn ++ pins)) [] σ H s where
  ok := ok.suite a _
  os := I.os
  bare := I.bare
  base := I.base
  loc := I.loc
  cell := I.cell
  free := I.free
  freeC := I.freeC
  pin := fun p hp => I.pin p (by
    rw [List.append_nil] at hp
    exact List.mem_append_left _ (List.mem_cons_of_mem _ hp))
  hok := I.hok
  len := I.len
theorem inv_out {pins : List (Addr × Obj)} {σ : L2.St} {H : Hp} {s : Shared} {a : Addr} (I : L2.Inv (X.suite a (X.pn ++ pins)) [] σ H s) (ok : X.Ok) : L2.Inv X pins σ H s where
  ok := ok
  os := I.os
  bare := I.bare
  base := I.base
  loc := I.loc
  cell := I.cell
  free := I.free
  freeC := I.freeC
  pin := fun p hp => I.pin p (List.mem_append_left _ hp)
  hok := I.hok
  len := I.len
theorem ps_try_ret (hs : X.stack = X.env :: X.outer) (hf : X.env.frame = some X.env.locals) (hex : X.ex = []) (hN : X.N.Nodup) (hi : X.N[i]? = some n) (hln : X.env.kindOf n = some .local) (hc : Names X x c) (tk : Takes X Wout)
    (hb : ∀ (W : WX) (pn : List (Addr × Obj)) (xe : Value → Shared → Prop), Takes (X.tr pn xe) W → PassesOwn (model X.prog X.w) X.A X.env xe → PSs (X.tr pn xe) body (tb W))
    (hsu : ∀ (a : Addr) (cls : Value) (d : Option Addr) (pn : List (Addr × Obj)), PSs (X.suite a pn) (b0 :: suite) (ts a cls d)) :
    PS X (.Try body [.ExceptHandler (some (.Name x np)) (some n) (b0 :: suite) pos'] [] [] pos) (fun D σ H => tb (wRet X.K c i ts Wout D) D σ H) := by
  constructor
  intro pins s σ H D I h
  have ok := I.ok
  have frames : X.A.frames = some (X.env :: X.outer) := by rw [ok.frames, hs]
  refine wpAny_Try_except ?_
  let after : Value → Shared → Prop := fun e s₁ => wpAny (model X.prog X.w) X.A (noteFrame e X.env) (fun _ s₂ => wpAny (model X.prog X.w) X.A (setFlight e none)
    (fun _ s₃ => wpAny (model X.prog X.w) X.A (handleBy e X.env [.ExceptHandler (some (.Name x np)) (some n) (b0 :: suite) pos']) (SP X pins D) X.xe s₃) X.xe s₂) X.xe s₁
  have catch_ : Takes (X.tr (X.pn ++ pins) after) (wRet X.K c i ts Wout D) := by
    rintro u s' ⟨a, B, sI, pins', σ', H', cls, d, rfl, J', nb, up, sky, na, os, ag, b, hb1, yes, no⟩
    have J : L2.Inv X pins σ' H' sI := J'.ofTry ok
    have sky' : Sky B (X.env :: X.outer) a (Zc cls d) X.env.locals s'.heap := by rw [← hs]; exact sky
    show wpAny (model X.prog X.w) X.A (noteFrame (.ref a) X.env) _ _ _
    refine Sky.land Zc.steady frames hf sky' fun h3 fl3 up3 => ?_
    have J3 : L2.Inv X pins σ' H' { s' with heap := h3 } := J.landed nb fl3.1 (up.trans up3) os ag
    obtain ⟨oe3, vs3, he3, hz3, hd3⟩ := fl3.there
    have noB : B.get? a = none := fl3.2.1
    have nfr : a ∉ frs (X.env :: X.outer) := by
      intro hm
      obtain ⟨_, o', e', hnf⟩ := fl3.2.2.1.mem hm
      rw [he3] at e'
      cases e'
      exact hnf _ hd3
    have nL : a ≠ X.env.locals := fun z => nfr (List.mem_filterMap.mpr ⟨X.env, List.mem_cons_self, by rw [hf, z]⟩)
    have nF : a ∉ X.fs := by
      intro hm
      obtain ⟨e, he, q⟩ := List.mem_filterMap.mp hm
      exact nfr (List.mem_filterMap.mpr ⟨e, List.mem_cons_of_mem _ he, q⟩)
    have late : ∀ b u, X.s_0.heap.get? b = some u → b ≠ a := by
      intro b u e z
      by_cases hm : b ∈ frs (X.env :: X.outer)
      · exact nfr (z ▸ hm)
      · obtain ⟨o', e'⟩ := J.base.there b u e (by rw [hex]; exact List.not_mem_nil)
        have q := nb b o' e' (by rw [hs]; exact hm)
        rw [z, noB] at q
        cases q
    have pinsA : ∀ p ∈ X.pn ++ pins, p.1 ≠ a := by
      intro p hp z
      obtain ⟨e, _, ne, nf, _⟩ := J.pin p hp
      have hm : p.1 ∉ frs (X.env :: X.outer) := by rw [z]; exact nfr
      have q := nb p.1 p.2 e (by rw [hs]; exact hm)
      rw [z, noB] at q
      cases q
    have S3 := J3.suite he3 hd3 na nL nF
    refine wpAny_handleBy_cons (codeAny_handlers_test ?_) (by intro q; cases q)
    have tyA : PySem.W.Looks (model X.prog X.w) h3 (typeOf (.ref a)) cls := fun A Q E s k q => wpAny_typeOf_ref (k _ _ he3) (by rw [hz3.1]; exact q)
    have meets := PySem.W.exm_one (M := model X.prog X.w) (J3.kIn) tyA hb1
    have asked : ∀ {Q : Value → Shared → Prop} {E : Value → Shared → Prop}, Q c { s' with heap := h3 } → wpAny (model X.prog X.w) (X.A.mark (some (.ref a))) (eval (.Name x np) X.env) Q E { s' with heap := h3 } := by
      intro Q E q
      obtain ⟨hg, hdbg, hm | ⟨hm, hv, hnn⟩⟩ := hc
      · exact ld_glob (X := X.suite a ((a, oe3) :: (X.pn ++ pins))) S3 hg hm q hdbg
      · exact ld_blt (X := X.suite a ((a, oe3) :: (X.pn ++ pins))) S3 hg hm hv q hnn hdbg
    refine asked (meets.here ?_)
    cases b with
    | true =>
      refine codeAny_handlers_suite_as (HandSPX.lands_againZ fl3 fun h4 fl4 up4 => ?_)
      have J4 : L2.Inv X pins σ' H' { s' with heap := h4 } := J.landed nb fl4.1 ((up.trans up3).trans up4) os ag
      obtain ⟨oe4, vs4, he4, hz4, hd4⟩ := fl4.there
      have S4 := J4.suite he4 hd4 na nL nF
      refine store_ok (X := X.suite a ((a, oe4) :: (X.pn ++ pins))) (v := .ref a) S4 hN hi (.inl hln) rfl (fun s5 S5 => ?_) (.inr hln)
      obtain ⟨g5, f5, _, _, dc⟩ := S5.pin (a, oe4) (List.mem_append_left _ List.mem_cons_self)
      have U5 := inv_unpin S5 ok
      have T5 : L2.Inv (X.suite a (X.pn ++ pins)) [] (σ'.set i (some (.ref a))) (upd H' a (ExH cls d a)) s5 := by
        refine track U5 f5 late nL ?_ (fun p hp => pinsA p ?_) (exH_ok g5 hz4 hd4)
        · intro y cc e z
          obtain ⟨v, o, ho, hd⟩ := U5.cell y cc e
          rw [z, g5] at ho
          cases ho
          exact dc v hd
        · rw [List.append_nil] at hp
          exact hp
      refine wpAny_mono ((hsu a cls d (X.pn ++ pins)).run [] s5 _ _ _ T5 (yes rfl a na)) ?_ (fun _ _ z => z.elim)
      intro f s6 hsp
      have leave : ∀ {σ6 : L2.St} {H6 : Hp} {Q : Shared → Prop}, L2.Inv (X.suite a (X.pn ++ pins)) [] σ6 H6 s6 → (∀ s7, L2.Inv X pins (σ6.set i none) H6 s7 → Q s7) →
          wpAny (model X.prog X.w) X.A (do bindName X.env n .none; unbindBehindTheSuite X.env n pos') (fun _ s7 => Q s7) X.xe s6 :=
        fun S6 hq => gone_ok (inv_out S6 ok) hN hi hln hq
      cases f with
      | next =>
        obtain ⟨σ6, H6, S6, q6⟩ := hsp
        exact leave S6 fun s7 J7 => ⟨_, _, J7, q6⟩
      | brk =>
        obtain ⟨σ6, H6, S6, q6⟩ := hsp
        exact leave S6 fun s7 J7 => ⟨_, _, J7, q6⟩
      | cont =>
        obtain ⟨σ6, H6, S6, q6⟩ := hsp
        exact leave S6 fun s7 J7 => ⟨_, _, J7, q6⟩
      | ret u =>
        obtain ⟨v6, σ6, H6, S6, r6, q6⟩ := hsp
        exact leave S6 fun s7 J7 => ⟨_, _, _, J7, r6, q6⟩
    | false =>
      show wpAny _ X.A (handleBy (.ref a) X.env []) _ _ _
      refine wpAny_handleBy_nil ?_
      obtain ⟨k1, k2, k3, oe, vs, T, oT, tt, he, hz, hd, h1, hr⟩ := id fl3
      unfold PySem.passOn
      refine wpAny_bind (wpAny_field he hd h1 ?_)
      rw [if_neg (show ¬ ((Value.ref T == Value.none) = true) from by simp)]
      have fin : wpAny (model X.prog X.w) X.A (setFlight (.ref a) X.env.frame) (fun _ s4 => wpAny (model X.prog X.w) X.A (throw (.ref a) : Sem Flow) (SP X pins D) X.xe s4) X.xe { s' with heap := h3 } := by
        rw [hf]
        refine HandSPX.setFlight_upZ fl3 fun h4 fl4 up4 => wpAny_throw (tk _ _ ?_)
        exact ⟨a, B, sI, pins, σ', H', cls, d, rfl, J, nb, (up.trans up3).trans up4, .inr (.inr (by rw [hs]; exact fl4)), na, os, ag, no rfl⟩
      first
        | exact wpAny_bind (wpAny_pure (wpAny_bind fin))
        | exact wpAny_bind fin
  refine wpAny_mono ((hb (wRet X.K c i ts Wout D) (X.pn ++ pins) after catch_ PassesOwn.looking).run [] s σ H D (I.toTry _) h) ?_ (fun e s1 he => he)
  intro f s1 hsp
  cases f with
  | next =>
    obtain ⟨σ', H', J', q⟩ := hsp
    exact wpAny_execs_nil ⟨σ', H', J'.ofTry ok, q⟩
  | brk =>
    obtain ⟨σ', H', J', q⟩ := hsp
    exact ⟨σ', H', J'.ofTry ok, q⟩
  | cont =>
    obtain ⟨σ', H', J', q⟩ := hsp
    exact ⟨σ', H', J'.ofTry ok, q⟩
  | ret u =>
    obtain ⟨v, σ', H', J', r, q⟩ := hsp
    exact ⟨v, σ', H', J'.ofTry ok, r, q⟩
end
end Wk
set_option Elab.async false
set_option linter.all false
set_option maxRecDepth 100000
set_option maxHeartbeats 4000000
/-! Numbers compared: what the law hears. -/
namespace LB
open PySem L2 Wk
open Bg (Bg Wo)
theorem roomH_mark {k : Nat} {A : Around} (r : Room k A) (a : Addr) : L2H.RoomH k (A.mark (some (.ref a))) := ⟨r.dp, r.un⟩
/-- the numbers' bound -/
def inW (n : Nat) (x : Int) : Prop := 0 ≤ x ∧ x < Bg.W (n + 1)
def spAsked (CH : Addr) : Sp := fun vs H Q _ => ∃ (a dx t o te sc : Addr) (q : Int) (ones tens : List Str) (hun : Str) (scales : List Str) (x y : Int) (b : Bool), vs = [.ref a, .int x, .int y, .bl b] ∧ HidAt H a CH dx t q ∧ TabD H t ones tens hun scales o te sc ∧ fault ones tens hun scales = none ∧
  (∀ z, (¬ inW scales.length x ∧ z = x) ∨ (inW scales.length x ∧ ¬ inW scales.length y ∧ z = y) → ∀ (L : Addr) (H' : Hp), H L = none → Same H H' → H' L = some (.lst [.str "number", .int z]) → Q (.ref L) H') ∧
  (inW scales.length x → inW scales.length y → ∀ (L : Addr) (H' : Hp), H L = none → HidAt H' a CH dx t (q + 1) → (∀ r u, H r = some u → r ≠ a → H' r = some u) → H' L = some (.lst [.bl (ltW (nmD ones tens hun scales x) (nmD ones tens hun scales y))]) → Q (.ref L) H')
def spMade : Sp := fun vs H Q _ => ∃ (t o te sc : Addr) (ones tens : List Str) (hun : Str) (scales : List Str), vs = [.ref t] ∧ TabD H t ones tens hun scales o te sc ∧
  (fault ones tens hun scales = none → ∀ (L : Addr) (H' : Hp), H L = none → Same H H' → H' L = some (.lst [.str "none", .int 0]) → Q (.ref L) H') ∧
  (∀ v, fault ones tens hun scales = some v → ∀ (L : Addr) (H' : Hp), H L = none → Same H H' → H' L = some (.lst [.str "table", v]) → Q (.ref L) H')
section
variable {P : Program} {w : World} {K : PySem.W.Frag} {mg : Str → Option Value} {base : Heap}
/-- the hidden table's class, as the law meets it -/
structure HidM (P : Program) (w : World) (K : PySem.W.Frag) (mg : Str → Option Value) (base : Heap) (CH C0 C1 fI fC fQ pQ fS pS : Addr) (dI dC dQ dS : FuncData) (g : List Value → List Value → List Value) : Prop where
  gH : mg "HiddenTable" = some (.ref CH)
  hc : HidC K CH
  made : Mk K CH fI
  init : FnOk P w K mg base (L2.CX P w) 4 fI dI ["self", "table"] (spHInit CH C0)
  bI : Binds K dI ["self", "table"] []
  mC : Meth K CH "comes_before" fC
  comes : FnOk P w K mg base (L2.CX P w) 6 fC dC ["self", "first", "second"] (spHCome CH C1)
  bC : Binds K dC ["self", "first", "second"] []
  kC : KBn K dC ["self", "first", "second"] 1 ["second", "first"] g (fun us zs => [us.getD 0 .non, zs.getD 1 .non, zs.getD 0 .non])
  pS : PropOf K CH "scales" pS fS
  scal : FnOk P w K mg base CX0 1 fS dS ["self"] (spHScal CH)
  bS : Binds K dS ["self"] []
/-- how errors are heard of -/
structure Hear (P : Program) (w : World) (K : PySem.W.Frag) (mg : Str → Option Value) (base : Heap) (fK : Addr) (dK : FuncData) (C0 C1 C2 C3 C4 C5 O : Addr) : Prop where
  ok : FnA P w K mg base CX0 1 fK dK ["caught"] (spKindD [C0, C1, C2, C3, C4, C5])
  g : mg "_law_kind" = some (.ref fK)
  k : PySem.W.keepIn K (.ref fK) = true
  b : Binds K dK ["caught"] []
  gO : mg "OrderError" = some (.ref O)
  h0 : PySem.W.exmOne K (.ref C0) (.ref O) = some true
  h1 : PySem.W.exmOne K (.ref C1) (.ref O) = some true
  x0 : XfC K C0
  x1 : XfC K C1
  n0 : PySem.W.findIn K (.ref C0) "value" = some none
  n1 : PySem.W.findIn K (.ref C1) "value" = some none
variable {CH C0 C1 C2 C3 C4 C5 O fI fC fQ pQ fS pS fK : Addr} {dI dC dQ dS dK : FuncData} {g : List Value → List Value → List Value}
end
end LB
set_option Elab.async false
set_option linter.all false
set_option maxRecDepth 100000
set_option maxHeartbeats 4000000
/-! Names as paths of beginnings. -/
namespace Bg
def folL : Bg → List Wo → Option Bg
  | b, [] => some b
  | b, x :: xs => (fol b x).bind fun c => folL c xs
theorem folL_app : ∀ (a : List Wo) (b : Bg) (c : List Wo), folL b (a ++ c) = (folL b a).bind fun d => folL d c
  | [], _, _ => rfl
  | x :: a, b, c => by
    show (fol b x).bind (fun d => folL d (a ++ c)) = ((fol b x).bind fun d => folL d a).bind fun d => folL d c
    cases fol b x with
    | none => rfl
    | some d => exact folL_app a d c
theorem folL_one {b c : Bg} {x : Wo} (h : fol b x = some c) (xs : List Wo) : folL b (x :: xs) = folL c xs := by
  show (fol b x).bind (fun d => folL d xs) = _
  rw [h]
  rfl
theorem fol_dig {t g r : Int} {m : Nat} {n : Int} (h1 : 0 < n) (h2 : n < 10) (hr : r ≥ 10) : fol ⟨t, g, r, m⟩ (.low n) = some ⟨t, g + n, 1, m⟩ := by
  unfold fol
  simp only
  rw [if_neg (by omega), if_neg (by omega), if_pos hr]
theorem fol_ten {t g : Int} {m : Nat} {n : Int} (h1 : 10 ≤ n) : fol ⟨t, g, 100, m⟩ (.low n) = some ⟨t, g + n, if n ≥ 20 then 10 else 1, m⟩ := by
  unfold fol
  simp only
  rw [if_neg (by omega), if_pos h1, if_pos trivial]
theorem fol_hun {t g r : Int} {m : Nat} (h1 : 0 < g) (h2 : g < 10) : fol ⟨t, g, r, m⟩ .hun = some ⟨t, g * 100, 100, m⟩ := by
  unfold fol
  simp only
  rw [if_pos ⟨h1, h2⟩]
theorem fol_sc {t g r : Int} {m i : Nat} (h1 : 0 < g) (h2 : i + 1 < m) : fol ⟨t, g, r, m⟩ (.sc i) = some ⟨t + g * W (i + 1), 0, 100, i + 1⟩ := by
  unfold fol
  simp only
  rw [if_pos ⟨h1, h2⟩]
theorem group_path {t g : Int} {m : Nat} (h1 : 1 ≤ g) (h2 : g ≤ 999) : ∃ r, folL ⟨t, 0, 100, m⟩ (groupW g) = some ⟨t, g, r, m⟩ := by
  unfold groupW
  rw [folL_app]
  have hd : folL ⟨t, 0, 100, m⟩ (if g / 100 > 0 then [.low (g / 100), .hun] else []) = some ⟨t, 100 * (g / 100), 100, m⟩ := by
    by_cases c : g / 100 > 0
    · rw [if_pos c, folL_one (fol_dig (by omega) (by omega) (by omega)), folL_one (fol_hun (by omega) (by omega))]
      show some _ = some _
      congr 2
      omega
    · rw [if_neg c, show g / 100 = 0 by omega]
      rfl
  rw [hd]
  show ∃ r, folL ⟨t, 100 * (g / 100), 100, m⟩ _ = _
  by_cases c : g % 100 ≥ 20
  · rw [if_pos c, folL_one (fol_ten (by omega)), if_pos (by omega)]
    by_cases d : g % 100 % 10 > 0
    · rw [if_pos d, folL_one (fol_dig (by omega) (by omega) (by omega))]
      refine ⟨1, ?_⟩
      show some _ = some _
      congr 2
      omega
    · rw [if_neg d]
      refine ⟨10, ?_⟩
      show some _ = some _
      congr 2
      omega
  · rw [if_neg c]
    by_cases d : g % 100 > 0
    · rw [if_pos d]
      by_cases e : 10 ≤ g % 100
      · rw [folL_one (fol_ten e), if_neg (by omega)]
        refine ⟨1, ?_⟩
        show some _ = some _
        congr 2
        omega
      · rw [folL_one (fol_dig (by omega) (by omega) (by omega))]
        refine ⟨1, ?_⟩
        show some _ = some _
        congr 2
        omega
    · rw [if_neg d]
      refine ⟨100, ?_⟩
      show some _ = some _
      congr 2
      omega
theorem mod_succ (n : Int) (k : Nat) : n % W (k + 1) = gr n k * W k + n % W k := by
  have p := W_pos k
  unfold gr
  have e1 := Int.emod_add_mul_ediv n (W k)
  have e2 := Int.emod_add_mul_ediv (n / W k) 1000
  have e3 := Int.emod_add_mul_ediv n (W (k + 1))
  rw [div_succ] at e2
  rw [W_succ] at e3 ⊢
  have b1 := Int.emod_nonneg (n / W k) (show (1000 : Int) ≠ 0 by decide)
  -- n = n % W + W * (n / W); n / W = r + 1000 * q
  rw [W_succ] at e2
  have : W k * (n / W k) = W k * (n / W k % 1000) + 1000 * W k * (n / (1000 * W k)) := by
    conv => lhs; rw [← e2]
    rw [Int.mul_add, ← Int.mul_assoc, Int.mul_comm (W k) 1000]
  rw [Int.mul_comm (n / W k % 1000) (W k)]
  omega
theorem sp_path (n : Int) : ∀ (k : Nat) (t : Int) (m : Nat), k ≤ m → ∃ c, folL ⟨t, 0, 100, m⟩ (spW n k) = some c ∧ c.t + c.g = t + n % W k
  | 0, t, m, _ => ⟨_, rfl, by show t + 0 = t + n % 1; omega⟩
  | k + 1, t, m, h => by
    have gb := gr_bnd n k
    rw [mod_succ]
    show ∃ c, folL ⟨t, 0, 100, m⟩ (partW n k ++ spW n k) = some c ∧ _
    rw [folL_app]
    unfold partW
    by_cases c : gr n k > 0
    · rw [if_pos c, folL_app]
      obtain ⟨r, hr⟩ := group_path (t := t) (m := m) (show 1 ≤ gr n k by omega) gb.2
      rw [hr]
      by_cases d : k > 0
      · rw [if_pos d]
        obtain ⟨j, rfl⟩ : ∃ j, k = j + 1 := ⟨k - 1, by omega⟩
        show ∃ c, (folL ⟨t, gr n (j + 1), r, m⟩ [.sc (j + 1 - 1)]).bind (fun d => folL d (spW n (j + 1))) = some c ∧ _
        rw [Nat.add_sub_cancel, folL_one (fol_sc c (by omega))]
        obtain ⟨c', h1, h2⟩ := sp_path n (j + 1) (t + gr n (j + 1) * W (j + 1)) (j + 1) (Nat.le_refl _)
        exact ⟨c', h1, by omega⟩
      · have e : k = 0 := by omega
        subst e
        rw [if_neg (by decide)]
        refine ⟨_, rfl, ?_⟩
        show t + gr n 0 = t + (gr n 0 * 1 + n % 1)
        omega
    · rw [if_neg c]
      have z : gr n k = 0 := by omega
      obtain ⟨c', h1, h2⟩ := sp_path n k t m (by omega)
      refine ⟨c', h1, ?_⟩
      rw [h2, z, Int.zero_mul, Int.zero_add]
theorem name_path {n : Int} {k : Nat} (h0 : 0 ≤ n) (h1 : n < W (k + 1)) : ∃ c, folL (start k) (nameW n (k + 1)) = some c ∧ has c = true ∧ c.t + c.g = n := by
  unfold nameW
  by_cases z : n = 0
  · rw [if_pos z]
    refine ⟨zero, rfl, rfl, ?_⟩
    rw [z]
    rfl
  · rw [if_neg z]
    obtain ⟨c, h2, h3⟩ := sp_path n (k + 1) 0 (k + 1) (Nat.le_refl _)
    rw [Int.emod_eq_of_lt h0 h1, Int.zero_add] at h3
    refine ⟨c, h2, ?_, h3⟩
    unfold has
    rw [decide_eq_true (show c.t + c.g > 0 by omega)]
    rfl
/-! ### the words of names are words of the table -/
theorem low_all {k : Nat} {n : Int} (h0 : 0 ≤ n) (h1 : n < 20) : Wo.low n ∈ all k := by
  refine List.mem_cons_of_mem _ (List.mem_append_left _ (List.mem_map.mpr ⟨n.toNat, List.mem_range.mpr (by omega), ?_⟩))
  congr 1
  omega
theorem ten_all {k : Nat} {n : Int} (h0 : 2 ≤ n) (h1 : n ≤ 9) : Wo.low (10 * n) ∈ all k := by
  refine List.mem_cons_of_mem _ (List.mem_append_right _ (List.mem_append_left _ (List.mem_map.mpr ⟨(n - 2).toNat, List.mem_range.mpr (by omega), ?_⟩)))
  congr 1
  omega
theorem sc_all {k i : Nat} (h : i < k) : Wo.sc i ∈ all k := List.mem_cons_of_mem _ (List.mem_append_right _ (List.mem_append_right _ (List.mem_map.mpr ⟨i, List.mem_range.mpr h, rfl⟩)))
theorem group_all {k : Nat} {g : Int} (h1 : 0 ≤ g) (h2 : g ≤ 999) : ∀ x ∈ groupW g, x ∈ all k := by
  intro x hx
  unfold groupW at hx
  rcases List.mem_append.mp hx with hx | hx
  · split at hx
    · rcases List.mem_cons.mp hx with rfl | hx
      · exact low_all (by omega) (by omega)
      · rw [List.mem_singleton.mp hx]
        exact List.mem_cons_self
    · cases hx
  · split at hx
    · rcases List.mem_cons.mp hx with rfl | hx
      · exact ten_all (by omega) (by omega)
      · split at hx
        · rw [List.mem_singleton.mp hx]
          exact low_all (by omega) (by omega)
        · cases hx
    · split at hx
      · rw [List.mem_singleton.mp hx]
        exact low_all (by omega) (by omega)
      · cases hx
theorem sp_all {n : Int} {k : Nat} : ∀ i, i ≤ k + 1 → ∀ x ∈ spW n i, x ∈ all k
  | 0, _, x, hx => nomatch hx
  | i + 1, h, x, hx => by
    rcases List.mem_append.mp (show x ∈ partW n i ++ spW n i from hx) with hx | hx
    · have gb := gr_bnd n i
      unfold partW at hx
      split at hx
      · rcases List.mem_append.mp hx with hx | hx
        · exact group_all gb.1 gb.2 x hx
        · split at hx
          · rw [List.mem_singleton.mp hx]
            exact sc_all (by omega)
          · cases hx
      · cases hx
    · exact sp_all i (by omega) x hx
theorem name_all {n : Int} {k : Nat} : ∀ x ∈ nameW n (k + 1), x ∈ all k := by
  intro x hx
  unfold nameW at hx
  split at hx
  · rw [List.mem_singleton.mp hx]
    exact low_all (by decide) (by decide)
  · exact sp_all (k + 1) (Nat.le_refl _) x hx
/-! ### one number alone -/
theorem one_own {m : Int} {b : Bg} : own (fb m m) b = if has b = true ∧ b.t + b.g = m then 1 else 0 := by
  unfold own
  cases has b with
  | false => simp
  | true =>
    rw [if_pos rfl, fb_one (Int.le_refl m)]
    by_cases c : b.t + b.g = m
    · rw [if_pos (by omega), if_pos ⟨rfl, c⟩]
    · rw [if_neg (by omega), if_neg (by simp [c])]
/-- ends of sums of numbers that are not negative -/
theorem sumL_ge {α : Type} {f : α → Int} : ∀ {l : List α}, (∀ x ∈ l, 0 ≤ f x) → ∀ x ∈ l, f x ≤ sumL f l
  | y :: l, h, x, hx => by
    have h0 := h y List.mem_cons_self
    have hl := sumL_nonneg l fun z hz => h z (List.mem_cons_of_mem _ hz)
    show f x ≤ f y + sumL f l
    rcases List.mem_cons.mp hx with rfl | hx
    · omega
    · have := sumL_ge (fun z hz => h z (List.mem_cons_of_mem _ hz)) x hx
      omega
theorem cf_add (F G : Int → Int) (b : Bg) : cf (fun x => F x + G x) b = cf F b + cf G b := by
  unfold cf
  split
  · dsimp only
    omega
  · rw [← sumR_add]
    refine sumR_congr b.m fun j _ => ?_
    unfold cj
    simp only
    split <;> omega
theorem own_add (F G : Int → Int) (b : Bg) : own (fun x => F x + G x) b = own F b + own G b := by
  unfold own
  split
  · dsimp only
    omega
  · rfl
/-- the numbers of a range, one by one -/
theorem fb_sum (lo : Int) (n : Nat) : (fun x => fb lo (lo + (n : Int) - 1) x) = fun x => sumR (fun i => fb (lo + (i : Int)) (lo + (i : Int)) x) n := by
  funext x
  induction n with
  | zero =>
    show fb lo (lo + 0 - 1) x = 0
    unfold fb mx mn
    repeat' split
    all_goals omega
  | succ n ih =>
    show _ = sumR (fun i => fb (lo + (i : Int)) (lo + (i : Int)) x) n + fb (lo + (n : Int)) (lo + (n : Int)) x
    rw [← ih]
    unfold fb mx mn
    repeat' split
    all_goals omega
end Bg
set_option Elab.async false
set_option linter.all false
set_option maxRecDepth 100000
set_option maxHeartbeats 4000000
/-! Places are what the order of the names says. -/
namespace LB
open PySem L2 Wk
open Bg (Bg Wo)
/-- the order of names as lists of words -/
def ltL : List Str → List Str → Bool
  | _, [] => false
  | [], _ :: _ => true
  | a :: as, b :: bs => if WkI.ltS a b = true then true else if a = b then ltL as bs else false
theorem ltS_irrefl (x : Str) : WkI.ltS x x = false := decide_eq_false (List.lt_irrefl _)
theorem ltS_asym {x y : Str} (h : WkI.ltS x y = true) : WkI.ltS y x = false := (WkI.swoS (fun x : Str => x)).asym x y h
theorem ltS_trans {x y z : Str} (h1 : WkI.ltS x y = true) (h2 : WkI.ltS y z = true) : WkI.ltS x z = true := (WkI.swoS (fun x : Str => x)).ltle h1 (ltS_asym h2)
theorem ltL_irrefl : ∀ a : List Str, ltL a a = false
  | [] => rfl
  | x :: a => by
    show (if WkI.ltS x x = true then true else if x = x then ltL a a else false) = false
    rw [ltS_irrefl, if_neg Bool.false_ne_true, if_pos rfl, ltL_irrefl a]
theorem ltL_asym : ∀ {a b : List Str}, ltL a b = true → ltL b a = false
  | [], [], h => nomatch h
  | [], _ :: _, _ => rfl
  | _ :: _, [], h => nomatch h
  | x :: a, y :: b, h => by
    have h' : (if WkI.ltS x y = true then true else if x = y then ltL a b else false) = true := h
    show (if WkI.ltS y x = true then true else if y = x then ltL b a else false) = false
    by_cases c : WkI.ltS x y = true
    · rw [ltS_asym c, if_neg Bool.false_ne_true, if_neg]
      intro e
      rw [e, ltS_irrefl] at c
      cases c
    · rw [if_neg c] at h'
      by_cases d : x = y
      · subst d
        rw [if_pos rfl] at h'
        rw [if_neg c, if_pos rfl, ltL_asym h']
      · rw [if_neg d] at h'
        cases h'
theorem ltL_trans : ∀ {a b c : List Str}, ltL a b = true → ltL b c = true → ltL a c = true
  | a, [], _, h, _ => by
    have z : ltL a [] = false := by cases a <;> rfl
    rw [z] at h
    cases h
  | _, _ :: _, [], _, h => nomatch h
  | [], _ :: _, _ :: _, _, _ => rfl
  | x :: a, y :: b, z :: c, h1, h2 => by
    have h1' : (if WkI.ltS x y = true then true else if x = y then ltL a b else false) = true := h1
    have h2' : (if WkI.ltS y z = true then true else if y = z then ltL b c else false) = true := h2
    show (if WkI.ltS x z = true then true else if x = z then ltL a c else false) = true
    by_cases c1 : WkI.ltS x y = true
    · by_cases c2 : WkI.ltS y z = true
      · rw [if_pos (ltS_trans c1 c2)]
      · rw [if_neg c2] at h2'
        by_cases d : y = z
        · subst d
          rw [if_pos c1]
        · rw [if_neg d] at h2'
          cases h2'
    · rw [if_neg c1] at h1'
      by_cases d : x = y
      · subst d
        rw [if_pos rfl] at h1'
        by_cases c2 : WkI.ltS x z = true
        · rw [if_pos c2]
        · rw [if_neg c2] at h2' ⊢
          by_cases e : x = z
          · subst e
            rw [if_pos rfl] at h2' ⊢
            exact ltL_trans h1' h2'
          · rw [if_neg e] at h2'
            cases h2'
      · rw [if_neg d] at h1'
        cases h1'
theorem ltL_tri : ∀ {a b : List Str}, ltL a b = false → ltL b a = false → a = b
  | [], [], _, _ => rfl
  | [], _ :: _, h, _ => nomatch h
  | _ :: _, [], _, h => nomatch h
  | x :: a, y :: b, h1, h2 => by
    have h1' : (if WkI.ltS x y = true then true else if x = y then ltL a b else false) = false := h1
    have h2' : (if WkI.ltS y x = true then true else if y = x then ltL b a else false) = false := h2
    by_cases c1 : WkI.ltS x y = true
    · rw [if_pos c1] at h1'
      cases h1'
    · by_cases c2 : WkI.ltS y x = true
      · rw [if_pos c2] at h2'
        cases h2'
      · have e : x = y := WkI.ltS_tri (by simpa using c1) (by simpa using c2)
        subst e
        rw [if_neg c1, if_pos rfl] at h1'
        rw [if_neg c2, if_pos rfl] at h2'
        rw [ltL_tri h1' h2']
/-- a table's words, in their order, each once -/
structure Voc (ones tens : List Str) (hun : Str) (scales : List Str) (ws : List (Str × Wo)) : Prop where
  perm : ws.Perm (voc ones tens hun scales)
  asc : ascW ws
  l1 : ones.length = 20
  l2 : tens.length = 8
  nd : (ones ++ (tens ++ hun :: scales)).Nodup
section
variable {ones tens : List Str} {hun : Str} {scales : List Str} {ws : List (Str × Wo)}
theorem voc_wd (l1 : ones.length = 20) (l2 : tens.length = 8) : ∀ e ∈ voc ones tens hun scales, e.1 = wd ones tens hun scales e.2 := by
  have get : ∀ {f : Nat → Wo} {l : List Str} {e : Str × Wo}, e ∈ enumW f l → ∃ i : Nat, l[i]? = some e.1 ∧ e.2 = f i := by
    intro f l e he
    unfold enumW at he
    obtain ⟨y, hy, rfl⟩ := List.mem_map.mp he
    have := List.mem_zipIdx_iff_getElem?.mp hy
    exact ⟨y.2, this, rfl⟩
  intro e he
  unfold voc at he
  rcases List.mem_cons.mp he with rfl | he
  · rfl
  rcases List.mem_append.mp he with he | he
  · obtain ⟨i, hi, e2⟩ := get he
    have := (List.getElem?_eq_some_iff.mp hi).1
    rw [e2]
    unfold wd
    simp only
    rw [if_pos (by omega), Int.toNat_natCast, hi]
    rfl
  rcases List.mem_append.mp he with he | he
  · obtain ⟨i, hi, e2⟩ := get he
    have := (List.getElem?_eq_some_iff.mp hi).1
    rw [e2]
    unfold wd
    simp only
    rw [if_neg (by omega), show 10 * ((i : Int) + 2) / 10 - 2 = (i : Int) by omega, Int.toNat_natCast, hi]
    rfl
  · obtain ⟨i, hi, e2⟩ := get he
    rw [e2]
    unfold wd
    simp only
    rw [hi]
    rfl
theorem Voc.mem (V : Voc ones tens hun scales ws) {x : Wo} (h : x ∈ Bg.all scales.length) : (wd ones tens hun scales x, x) ∈ ws := by
  rw [← voc_snd (hun := hun) (scales := scales) V.l1 V.l2] at h
  obtain ⟨e, he, rfl⟩ := List.mem_map.mp h
  have e1 := voc_wd V.l1 V.l2 e he
  rw [← e1]
  exact V.perm.mem_iff.mpr he
theorem Voc.all (V : Voc ones tens hun scales ws) : (ws.map (·.2)).Perm (Bg.all scales.length) := by
  have := V.perm.map (·.2)
  rw [voc_snd V.l1 V.l2] at this
  exact this
theorem Voc.word (V : Voc ones tens hun scales ws) {e : Str × Wo} (h : e ∈ ws) : e.1 = wd ones tens hun scales e.2 ∧ e.2 ∈ Bg.all scales.length :=
  ⟨voc_wd V.l1 V.l2 e (V.perm.mem_iff.mp h), V.all.mem_iff.mp (List.mem_map.mpr ⟨e, h, rfl⟩)⟩
theorem Voc.inj (V : Voc ones tens hun scales ws) {x y : Wo} (hx : x ∈ Bg.all scales.length) (hy : y ∈ Bg.all scales.length) (h : wd ones tens hun scales x = wd ones tens hun scales y) : x = y := by
  have a := V.mem hx
  have b := V.mem hy
  rw [h] at a
  have key : ∀ {l : List (Str × Wo)}, ascW l → ∀ {w : Str} {p q : Wo}, (w, p) ∈ l → (w, q) ∈ l → p = q := by
    intro l
    induction l with
    | nil => intro _ _ _ _ h; cases h
    | cons e l ih =>
      intro asc w p q h1 h2
      obtain ⟨hd, tl⟩ := List.pairwise_cons.mp asc
      rcases List.mem_cons.mp h1 with e1 | e1
      · rcases List.mem_cons.mp h2 with e2 | e2
        · rw [← e2] at e1
          exact congrArg Prod.snd e1
        · have := hd _ e2
          rw [← e1, ltS_irrefl] at this
          cases this
      · rcases List.mem_cons.mp h2 with e2 | e2
        · have := hd _ e1
          rw [← e2, ltS_irrefl] at this
          cases this
        · exact ih tl e1 e2
  exact key V.asc a b
theorem steps_asc (b : Bg) : ∀ {l : List (Str × Wo)}, ascW l → (stepsOf b l).Pairwise fun e f => WkI.ltS e.1 f.1 = true
  | [], _ => List.Pairwise.nil
  | e :: l, h => by
    obtain ⟨hd, tl⟩ := List.pairwise_cons.mp h
    have ih := steps_asc b tl
    have c : stepsOf b (e :: l) = (match Bg.fol b e.2 with | none => [] | some c => [(e.1, c)]) ++ stepsOf b l := by
      show List.filterMap _ (e :: l) = _
      rw [List.filterMap_cons]
      cases Bg.fol b e.2 with
      | none => rfl
      | some c => rfl
    rw [c]
    cases Bg.fol b e.2 with
    | none => exact ih
    | some c =>
      refine List.pairwise_cons.mpr ⟨fun f hf => ?_, ih⟩
      obtain ⟨x, hx, _⟩ := steps_mem hf
      exact hd _ hx
theorem steps_of_mem {b c : Bg} {l : List (Str × Wo)} {w : Str} {x : Wo} (h : (w, x) ∈ l) (hf : Bg.fol b x = some c) : (w, c) ∈ stepsOf b l :=
  List.mem_filterMap.mpr ⟨(w, x), h, by rw [hf]; rfl⟩
/-- a split of the ascending steps at a word -/
theorem split_at {st : List (Str × Bg)} {w : Str} {c : Bg} (asc : st.Pairwise fun e f => WkI.ltS e.1 f.1 = true) (h : (w, c) ∈ st) :
    ∃ pre post, st = pre ++ (w, c) :: post ∧ st.takeWhile (fun e => decide (e.1 ≠ w)) = pre ∧ (∀ b, nxt st b w = c) ∧ (∀ e ∈ pre, WkI.ltS e.1 w = true) ∧ ∀ e ∈ post, WkI.ltS w e.1 = true := by
  obtain ⟨pre, post, e⟩ := List.append_of_mem h
  subst e
  obtain ⟨a1, a2, a3⟩ := List.pairwise_append.mp asc
  obtain ⟨b1, b2⟩ := List.pairwise_cons.mp a2
  have p1 : ∀ e ∈ pre, WkI.ltS e.1 w = true := fun e he => a3 e he (w, c) List.mem_cons_self
  have ne : ∀ e ∈ pre, e.1 ≠ w := fun e he z => by
    have := p1 e he
    rw [z, ltS_irrefl] at this
    cases this
  refine ⟨pre, post, rfl, ?_, fun b => ?_, p1, b1⟩
  · rw [List.takeWhile_append_of_pos (fun e he => decide_eq_true (ne e he)), List.takeWhile_cons_of_neg (by simp), List.append_nil]
  · unfold nxt
    rw [List.find?_append, List.find?_eq_none.mpr (fun e he => by simpa using ne e he), List.find?_cons_of_pos (by simp)]
    rfl
/-- the hits of one number m -/
theorem hit_own {b : Bg} {m : Int} {k : Nat} (V : Voc ones tens hun scales ws) (ok : Bg.Ok b) (bm : b.m ≤ scales.length + 1) :
    Bg.cf (Bg.fb m m) b = Bg.own (Bg.fb m m) b + Bg.sumL (cfS (Bg.fb m m)) (stepsOf b ws) := steps_count ok bm V.all
theorem step_ok (V : Voc ones tens hun scales ws) {b : Bg} {e : Str × Bg} (ok : Bg.Ok b) (h : e ∈ stepsOf b ws) : Bg.Ok e.2 ∧ e.2.m ≤ b.m := by
  obtain ⟨x, hx, hf⟩ := steps_mem h
  exact ⟨Bg.fol_ok ok (Bg.all_ok (V.word hx).2) hf, Bg.fol_m hf⟩
theorem step_nneg (V : Voc ones tens hun scales ws) {b : Bg} {lo hi : Int} (ok : Bg.Ok b) : ∀ e ∈ stepsOf b ws, 0 ≤ cfS (Bg.fb lo hi) e := fun e he => Bg.cf_nonneg (step_ok V ok he).1
theorem hit_path (V : Voc ones tens hun scales ws) {m : Int} : ∀ (A : List Wo) {b c : Bg}, Bg.Ok b → b.m ≤ scales.length + 1 → (∀ x ∈ A, x ∈ Bg.all scales.length) → Bg.folL b A = some c → Bg.has c = true → c.t + c.g = m → 1 ≤ Bg.cf (Bg.fb m m) b
  | [], b, c, ok, bm, _, hf, hc, hm => by
    cases hf
    have s := Bg.sumL_nonneg _ (step_nneg V (lo := m) (hi := m) ok)
    have o := Bg.one_own (m := m) (b := b)
    rw [if_pos ⟨hc, hm⟩] at o
    have := hit_own (m := m) (k := 0) V ok bm
    omega
  | x :: A, b, c, ok, bm, hA, hf, hc, hm => by
    have hf' : (Bg.fol b x).bind (fun d => Bg.folL d A) = some c := hf
    cases hx : Bg.fol b x with
    | none =>
      rw [hx] at hf'
      cases hf'
    | some d =>
      rw [hx] at hf'
      have xa := hA x List.mem_cons_self
      have okd := Bg.fol_ok ok (Bg.all_ok xa) hx
      have ih := hit_path V A okd (Nat.le_trans (Bg.fol_m hx) bm) (fun y hy => hA y (List.mem_cons_of_mem _ hy)) hf' hc hm
      have mem := steps_of_mem (V.mem xa) hx
      have ge := Bg.sumL_ge (step_nneg V (lo := m) (hi := m) ok) _ mem
      have o0 := Bg.own_nonneg (b := b) (Int.le_refl m)
      have := hit_own (m := m) (k := 0) V ok bm
      have e : cfS (Bg.fb m m) (wd ones tens hun scales x, d) = Bg.cf (Bg.fb m m) d := rfl
      omega
/-- where the number m is not, nothing is counted -/
theorem plc_zero (V : Voc ones tens hun scales ws) {m : Int} : ∀ (B : List Wo) {b c : Bg} (acc : Int), Bg.Ok b → b.m ≤ scales.length + 1 → (∀ x ∈ B, x ∈ Bg.all scales.length) → Bg.folL b B = some c → Bg.cf (Bg.fb m m) b = 0 →
    plc (Bg.fb m m) ws b (B.map (wd ones tens hun scales)) acc = acc
  | [], _, _, _, _, _, _, _, _ => rfl
  | y :: B, b, c, acc, ok, bm, hB, hf, z => by
    have hf' : (Bg.fol b y).bind (fun d => Bg.folL d B) = some c := hf
    cases hy : Bg.fol b y with
    | none =>
      rw [hy] at hf'
      cases hf'
    | some d =>
      rw [hy] at hf'
      have ya := hB y List.mem_cons_self
      have okd := Bg.fol_ok ok (Bg.all_ok ya) hy
      obtain ⟨pre, post, es, e1, e2, _, _⟩ := split_at (steps_asc b V.asc) (steps_of_mem (V.mem ya) hy)
      have tot := hit_own (m := m) (k := 0) V ok bm
      have o0 := Bg.own_nonneg (b := b) (Int.le_refl m)
      have nn := step_nneg V (lo := m) (hi := m) ok
      rw [es, Bg.sumL_append] at tot
      rw [es] at nn
      have s1 := Bg.sumL_nonneg pre fun e he => nn e (List.mem_append_left _ he)
      have s2 := Bg.sumL_nonneg post fun e he => nn e (List.mem_append_right _ (List.mem_cons_of_mem _ he))
      have s3 := Bg.cf_nonneg (lo := m) (hi := m) okd
      have tot' : Bg.cf (Bg.fb m m) b = Bg.own (Bg.fb m m) b + (Bg.sumL (cfS (Bg.fb m m)) pre + (Bg.cf (Bg.fb m m) d + Bg.sumL (cfS (Bg.fb m m)) post)) := tot
      show plc (Bg.fb m m) ws (nxt (stepsOf b ws) b (wd ones tens hun scales y)) (B.map (wd ones tens hun scales)) (acc + Bg.own (Bg.fb m m) b + Bg.sumL (cfS (Bg.fb m m)) ((stepsOf b ws).takeWhile fun e => decide (e.1 ≠ wd ones tens hun scales y))) = acc
      rw [e1, e2, plc_zero V B _ okd (Nat.le_trans (Bg.fol_m hy) bm) (fun x hx => hB x (List.mem_cons_of_mem _ hx)) hf' (by omega)]
      omega
/-- the number m is counted ahead of the name B exactly if its own name A is less -/
theorem plc_one (V : Voc ones tens hun scales ws) {m : Int} : ∀ (B A : List Wo) {b c d : Bg} (acc : Int), Bg.Ok b → b.m ≤ scales.length + 1 → (∀ x ∈ B, x ∈ Bg.all scales.length) → (∀ x ∈ A, x ∈ Bg.all scales.length) → Bg.folL b B = some c →
    Bg.folL b A = some d → Bg.has d = true → d.t + d.g = m → Bg.cf (Bg.fb m m) b = 1 →
    plc (Bg.fb m m) ws b (B.map (wd ones tens hun scales)) acc = acc + if ltL (A.map (wd ones tens hun scales)) (B.map (wd ones tens hun scales)) = true then 1 else 0
  | [], A, _, _, _, acc, _, _, _, _, _, _, _, _, _ => by
    show acc = acc + if ltL _ [] = true then 1 else 0
    have : ltL (A.map (wd ones tens hun scales)) [] = false := by cases A <;> rfl
    rw [this, if_neg Bool.false_ne_true]
    omega
  | y :: B, A, b, c, d, acc, ok, bm, hB, hA, hf, hd, hh, hm, one => by
    have hf' : (Bg.fol b y).bind (fun d => Bg.folL d B) = some c := hf
    cases hy : Bg.fol b y with
    | none =>
      rw [hy] at hf'
      cases hf'
    | some z =>
      rw [hy] at hf'
      have ya := hB y List.mem_cons_self
      have okz := Bg.fol_ok ok (Bg.all_ok ya) hy
      have zm := Nat.le_trans (Bg.fol_m hy) bm
      have hB' : ∀ x ∈ B, x ∈ Bg.all scales.length := fun x hx => hB x (List.mem_cons_of_mem _ hx)
      obtain ⟨pre, post, es, e1, e2, lt1, lt2⟩ := split_at (steps_asc b V.asc) (steps_of_mem (V.mem ya) hy)
      have tot := hit_own (m := m) (k := 0) V ok bm
      have o0 := Bg.own_nonneg (b := b) (Int.le_refl m)
      have nn := step_nneg V (lo := m) (hi := m) ok
      rw [es, Bg.sumL_append] at tot
      rw [es] at nn
      have nn1 : ∀ e ∈ pre, 0 ≤ cfS (Bg.fb m m) e := fun e he => nn e (List.mem_append_left _ he)
      have nn2 : ∀ e ∈ post, 0 ≤ cfS (Bg.fb m m) e := fun e he => nn e (List.mem_append_right _ (List.mem_cons_of_mem _ he))
      have s1 := Bg.sumL_nonneg pre nn1
      have s2 := Bg.sumL_nonneg post nn2
      have s3 := Bg.cf_nonneg (lo := m) (hi := m) okz
      have tot' : Bg.cf (Bg.fb m m) b = Bg.own (Bg.fb m m) b + (Bg.sumL (cfS (Bg.fb m m)) pre + (Bg.cf (Bg.fb m m) z + Bg.sumL (cfS (Bg.fb m m)) post)) := tot
      show plc (Bg.fb m m) ws (nxt (stepsOf b ws) b (wd ones tens hun scales y)) (B.map (wd ones tens hun scales)) (acc + Bg.own (Bg.fb m m) b + Bg.sumL (cfS (Bg.fb m m)) ((stepsOf b ws).takeWhile fun e => decide (e.1 ≠ wd ones tens hun scales y))) = _
      rw [e1, e2]
      cases A with
      | nil =>
        cases hd
        have o := Bg.one_own (m := m) (b := b)
        rw [if_pos ⟨hh, hm⟩] at o
        rw [plc_zero V B _ okz zm hB' hf' (by omega)]
        show _ = acc + if ltL [] (_ :: _) = true then 1 else 0
        rw [show ltL [] (wd ones tens hun scales y :: List.map (wd ones tens hun scales) B) = true from rfl, if_pos rfl]
        omega
      | cons x A =>
        have hd' : (Bg.fol b x).bind (fun d => Bg.folL d A) = some d := hd
        cases hx : Bg.fol b x with
        | none =>
          rw [hx] at hd'
          cases hd'
        | some u =>
          rw [hx] at hd'
          have xa := hA x List.mem_cons_self
          have oku := Bg.fol_ok ok (Bg.all_ok xa) hx
          have um := Nat.le_trans (Bg.fol_m hx) bm
          have hA' : ∀ x ∈ A, x ∈ Bg.all scales.length := fun y hy => hA y (List.mem_cons_of_mem _ hy)
          have hu := hit_path V A oku um hA' hd' hh hm
          have mem := steps_of_mem (V.mem xa) hx
          rw [es] at mem
          have eu : cfS (Bg.fb m m) (wd ones tens hun scales x, u) = Bg.cf (Bg.fb m m) u := rfl
          show _ = acc + if ltL (wd ones tens hun scales x :: A.map (wd ones tens hun scales)) (wd ones tens hun scales y :: B.map (wd ones tens hun scales)) = true then 1 else 0
          have lt_eq : ltL (wd ones tens hun scales x :: A.map (wd ones tens hun scales)) (wd ones tens hun scales y :: B.map (wd ones tens hun scales)) = if WkI.ltS (wd ones tens hun scales x) (wd ones tens hun scales y) = true then true else if wd ones tens hun scales x = wd ones tens hun scales y then ltL (A.map (wd ones tens hun scales)) (B.map (wd ones tens hun scales)) else false := rfl
          rcases List.mem_append.mp mem with mem | mem
          · -- ahead
            have g := Bg.sumL_ge nn1 _ mem
            rw [lt_eq, if_pos (lt1 _ mem), if_pos rfl, plc_zero V B _ okz zm hB' hf' (by omega)]
            omega
          · rcases List.mem_cons.mp mem with e | mem
            · -- the same word
              have ew : wd ones tens hun scales x = wd ones tens hun scales y := congrArg Prod.fst e
              have ez : u = z := congrArg Prod.snd e
              subst ez
              rw [lt_eq, ew, ltS_irrefl, if_neg Bool.false_ne_true, if_pos rfl, plc_one V B A _ okz zm hB' hA' hf' hd' hh hm (by omega)]
              omega
            · have g := Bg.sumL_ge nn2 _ mem
              have l := lt2 _ mem
              have ne : wd ones tens hun scales x ≠ wd ones tens hun scales y := fun q => by
                rw [show wd ones tens hun scales x = wd ones tens hun scales y from q, ltS_irrefl] at l
                cases l
              rw [lt_eq, ltS_asym l, if_neg Bool.false_ne_true, if_neg ne, if_neg Bool.false_ne_true, plc_zero V B _ okz zm hB' hf' (by omega)]
              omega
theorem sumL_add {α : Type} (f g : α → Int) : ∀ l : List α, Bg.sumL (fun x => f x + g x) l = Bg.sumL f l + Bg.sumL g l
  | [] => rfl
  | x :: l => by
    show f x + g x + Bg.sumL (fun x => f x + g x) l = f x + Bg.sumL f l + (g x + Bg.sumL g l)
    rw [sumL_add f g l]
    omega
theorem plc_add (F G : Int → Int) (ws : List (Str × Wo)) : ∀ (xs : List Str) (b : Bg) (p q : Int), plc (fun x => F x + G x) ws b xs (p + q) = plc F ws b xs p + plc G ws b xs q
  | [], _, _, _ => rfl
  | x :: xs, b, p, q => by
    show plc (fun x => F x + G x) ws (nxt (stepsOf b ws) b x) xs (p + q + Bg.own (fun x => F x + G x) b + Bg.sumL (cfS fun x => F x + G x) ((stepsOf b ws).takeWhile fun e => decide (e.1 ≠ x))) =
      plc F ws (nxt (stepsOf b ws) b x) xs (p + Bg.own F b + Bg.sumL (cfS F) ((stepsOf b ws).takeWhile fun e => decide (e.1 ≠ x))) + plc G ws (nxt (stepsOf b ws) b x) xs (q + Bg.own G b + Bg.sumL (cfS G) ((stepsOf b ws).takeWhile fun e => decide (e.1 ≠ x)))
    rw [← plc_add F G ws xs]
    congr 1
    have e : (cfS fun x => F x + G x) = fun e => cfS F e + cfS G e := by
      funext e
      exact Bg.cf_add F G e.2
    rw [e, sumL_add, Bg.own_add]
    omega
theorem plc_null (ws : List (Str × Wo)) : ∀ (xs : List Str) (b : Bg) (p : Int), plc (fun _ => 0) ws b xs p = p
  | [], _, _ => rfl
  | x :: xs, b, p => by
    have c0 : ∀ b : Bg, Bg.cf (fun _ => 0) b = 0 := fun b => by
      unfold Bg.cf
      split
      · rfl
      · refine (Bg.sumR_congr b.m fun j _ => ?_).trans (Bg.sumR_zero b.m)
        unfold Bg.cj
        split <;> rfl
    show plc (fun _ => 0) ws _ xs (p + Bg.own (fun _ => 0) b + Bg.sumL (cfS fun _ => 0) _) = p
    rw [plc_null ws xs, Bg.sumL_zero _ (fun e _ => c0 e.2)]
    unfold Bg.own
    split <;> simp
theorem plc_sum (f : Nat → Int → Int) (ws : List (Str × Wo)) (xs : List Str) (b : Bg) : ∀ n, plc (fun x => Bg.sumR (fun i => f i x) n) ws b xs 0 = Bg.sumR (fun i => plc (f i) ws b xs 0) n
  | 0 => plc_null ws xs b 0
  | n + 1 => by
    show plc (fun x => Bg.sumR (fun i => f i x) n + f n x) ws b xs (0 + 0) = Bg.sumR (fun i => plc (f i) ws b xs 0) n + plc (f n) ws b xs 0
    rw [plc_add, plc_sum f ws xs b n]
/-- the name of a number as a list of words -/
def nmL (ones tens : List Str) (hun : Str) (scales : List Str) (n : Int) : List Str := (Bg.nameW n (scales.length + 1)).map (wd ones tens hun scales)
/-- the numbers of a range that come before n -/
def ahead (ones tens : List Str) (hun : Str) (scales : List Str) (lo hi n : Int) : Int :=
  Bg.sumR (fun i => if ltL (nmL ones tens hun scales (lo + (i : Int))) (nmL ones tens hun scales n) = true then 1 else 0) (hi - lo + 1).toNat
/-- THE PLACE: the program's count is the number of numbers of the range that come before -/
theorem place_is (V : Voc ones tens hun scales ws) {lo hi n : Int} (lo0 : 0 ≤ lo) (lh : lo ≤ hi) (h1 : hi < Bg.W (scales.length + 1)) (n0 : 0 ≤ n) (n1 : n < Bg.W (scales.length + 1)) :
    plc (Bg.fb lo hi) ws (Bg.start scales.length) ((Bg.nameW n (scales.length + 1)).map (wd ones tens hun scales)) 0 = ahead ones tens hun scales lo hi n := by
  have e := Bg.fb_sum lo (hi - lo + 1).toNat
  rw [show lo + (((hi - lo + 1).toNat : Nat) : Int) - 1 = hi by omega] at e
  rw [show Bg.fb lo hi = fun x => Bg.fb lo hi x from rfl, e, plc_sum]
  unfold ahead
  refine Bg.sumR_congr _ fun i hi' => ?_
  have m0 : 0 ≤ lo + (i : Int) := by omega
  have m1 : lo + (i : Int) < Bg.W (scales.length + 1) := by omega
  obtain ⟨c, c1, c2, c3⟩ := Bg.name_path n0 n1
  obtain ⟨d, d1, d2, d3⟩ := Bg.name_path m0 m1
  have one := Bg.start_all (k := scales.length) m0 (Int.le_refl _) m1
  rw [plc_one V _ _ 0 (Bg.start_ok _) (Nat.le_refl _) Bg.name_all Bg.name_all c1 d1 d2 d3 (by omega)]
  show 0 + _ = _
  rw [Int.zero_add]
  rfl
end
end LB
set_option Elab.async false
set_option linter.all false
set_option maxRecDepth 100000
set_option maxHeartbeats 4000000
/-! The number at a place; what places of ranges do; names as texts. -/
namespace LB
open PySem L2 Wk
open Bg (Bg Wo)
section
variable {ones tens : List Str} {hun : Str} {scales : List Str} {ws : List (Str × Wo)}
/-- the path to the number that is found -/
theorem numAt_path (V : Voc ones tens hun scales ws) {F : Int → Int} {b : Bg} {left r : Int} (h : NumAt F ws b left r) : Bg.Ok b → ∃ (A : List Wo) (c : Bg), (∀ x ∈ A, x ∈ Bg.all scales.length) ∧ Bg.folL b A = some c ∧ c.t + c.g = r ∧ Bg.own F c = 1 ∧
    ∀ acc, plc F ws b (A.map (wd ones tens hun scales)) acc = acc + left := by
  induction h with
  | @own b h =>
    intro _
    exact ⟨[], b, (fun x hx => nomatch hx), rfl, rfl, h, fun acc => by show acc = acc + 0; omega⟩
  | @step b c x left r pre post es h0 h1 _ ih =>
    intro ok
    have mem : (x, c) ∈ stepsOf b ws := by rw [es]; exact List.mem_append_right _ List.mem_cons_self
    obtain ⟨w, hw, hf⟩ := steps_mem mem
    obtain ⟨ew, wa⟩ := V.word hw
    obtain ⟨A, d, a1, a2, a3, a4, a5⟩ := ih (Bg.fol_ok ok (Bg.all_ok wa) hf)
    refine ⟨w :: A, d, fun y hy => ?_, ?_, a3, a4, fun acc => ?_⟩
    · rcases List.mem_cons.mp hy with rfl | hy
      · exact wa
      · exact a1 y hy
    · rw [Bg.folL_one hf]
      exact a2
    · obtain ⟨pre', post', es', e1, e2, lt1, _⟩ := split_at (steps_asc b V.asc) mem
      have asc := steps_asc b V.asc
      have e3 : (stepsOf b ws).takeWhile (fun e => decide (e.1 ≠ x)) = pre := by
        rw [es] at asc ⊢
        obtain ⟨_, _, q3⟩ := List.pairwise_append.mp asc
        have ne : ∀ e ∈ pre, (fun e : Str × Bg => decide (e.1 ≠ x)) e = true := fun e he => decide_eq_true fun z => by
          have := q3 e he (x, c) List.mem_cons_self
          rw [z, ltS_irrefl] at this
          cases this
        rw [List.takeWhile_append_of_pos ne, List.takeWhile_cons_of_neg (by simp), List.append_nil]
      have ew' : x = wd ones tens hun scales w := ew
      show plc F ws (nxt (stepsOf b ws) b (wd ones tens hun scales w)) (A.map (wd ones tens hun scales)) (acc + Bg.own F b + Bg.sumL (cfS F) ((stepsOf b ws).takeWhile fun e => decide (e.1 ≠ wd ones tens hun scales w))) = acc + left
      rw [← ew', e2, e3, a5]
      omega
/-- two paths to one number are one -/
theorem path_words (V : Voc ones tens hun scales ws) {m : Int} {A B : List Wo} {b c d : Bg} (ok : Bg.Ok b) (bm : b.m ≤ scales.length + 1) (hA : ∀ x ∈ A, x ∈ Bg.all scales.length) (hB : ∀ x ∈ B, x ∈ Bg.all scales.length)
    (fA : Bg.folL b A = some c) (fB : Bg.folL b B = some d) (hc : Bg.has c = true) (hd : Bg.has d = true) (nc : c.t + c.g = m) (nd : d.t + d.g = m) (one : Bg.cf (Bg.fb m m) b = 1) : A.map (wd ones tens hun scales) = B.map (wd ones tens hun scales) := by
  have h1 := plc_one V B A 0 ok bm hB hA fB fA hc nc one
  have h2 := plc_one V B B 0 ok bm hB hB fB fB hd nd one
  have h3 := plc_one V A B 0 ok bm hA hB fA fB hd nd one
  have h4 := plc_one V A A 0 ok bm hA hA fA fA hc nc one
  rw [ltL_irrefl, if_neg Bool.false_ne_true] at h2 h4
  refine ltL_tri ?_ ?_
  · rw [h2] at h1
    cases q : ltL (A.map (wd ones tens hun scales)) (B.map (wd ones tens hun scales)) with
    | false => rfl
    | true =>
      rw [q, if_pos rfl] at h1
      omega
  · rw [h4] at h3
    cases q : ltL (B.map (wd ones tens hun scales)) (A.map (wd ones tens hun scales)) with
    | false => rfl
    | true =>
      rw [q, if_pos rfl] at h3
      omega
theorem has_of_own {F : Int → Int} {c : Bg} (h : Bg.own F c = 1) : Bg.has c = true := by
  unfold Bg.own at h
  cases e : Bg.has c with
  | true => rfl
  | false =>
    rw [e, if_neg Bool.false_ne_true] at h
    cases h
/-- THE NUMBER AT A PLACE: it is of the range, and so many come before it -/
theorem number_is (V : Voc ones tens hun scales ws) {lo hi p r : Int} (lo0 : 0 ≤ lo) (lh : lo ≤ hi) (h1 : hi < Bg.W (scales.length + 1)) (h : NumAt (Bg.fb lo hi) ws (Bg.start scales.length) p r) :
    lo ≤ r ∧ r ≤ hi ∧ ahead ones tens hun scales lo hi r = p := by
  obtain ⟨A, c, a1, a2, a3, a4, a5⟩ := numAt_path V h (Bg.start_ok _)
  have hc := has_of_own a4
  rw [Bg.own_code lh, a3, hc, Bool.true_and] at a4
  have rng : lo ≤ r ∧ r ≤ hi := by
    by_cases q : (decide (lo ≤ r) && decide (r ≤ hi)) = true
    · rw [Bool.and_eq_true, decide_eq_true_eq, decide_eq_true_eq] at q
      exact q
    · rw [if_neg q] at a4
      cases a4
  have r0 : 0 ≤ r := by omega
  have r1 : r < Bg.W (scales.length + 1) := by omega
  obtain ⟨d, d1, d2, d3⟩ := Bg.name_path r0 r1
  have one := Bg.start_all (k := scales.length) r0 (Int.le_refl _) r1
  have e := path_words V (Bg.start_ok _) (Nat.le_refl _) a1 Bg.name_all a2 d1 hc d2 a3 d3 (by omega)
  refine ⟨rng.1, rng.2, ?_⟩
  have z := a5 0
  rw [e, place_is V lo0 lh h1 r0 r1, Int.zero_add] at z
  exact z
/-- a name is that of one number alone -/
theorem name_inj (V : Voc ones tens hun scales ws) {m n : Int} (m0 : 0 ≤ m) (m1 : m < Bg.W (scales.length + 1)) (n0 : 0 ≤ n) (n1 : n < Bg.W (scales.length + 1)) (h : nmL ones tens hun scales m = nmL ones tens hun scales n) : m = n := by
  have inj : ∀ {A B : List Wo}, (∀ x ∈ A, x ∈ Bg.all scales.length) → (∀ x ∈ B, x ∈ Bg.all scales.length) → A.map (wd ones tens hun scales) = B.map (wd ones tens hun scales) → A = B := by
    intro A
    induction A with
    | nil =>
      intro B _ _ h
      cases B with
      | nil => rfl
      | cons _ _ => cases h
    | cons x A ih =>
      intro B hA hB h
      cases B with
      | nil => cases h
      | cons y B =>
        rw [List.map_cons, List.map_cons] at h
        obtain ⟨h1, h2⟩ := List.cons.inj h
        rw [V.inj (hA x List.mem_cons_self) (hB y List.mem_cons_self) h1, ih (fun z hz => hA z (List.mem_cons_of_mem _ hz)) (fun z hz => hB z (List.mem_cons_of_mem _ hz)) h2]
  have e := inj Bg.name_all Bg.name_all h
  obtain ⟨c, c1, _, c3⟩ := Bg.name_path m0 m1
  obtain ⟨d, d1, _, d3⟩ := Bg.name_path n0 n1
  rw [e, d1] at c1
  cases c1
  omega
end
/-! ### what places do -/
section
variable (ones tens : List Str) (hun : Str) (scales : List Str)
def less (m n : Int) : Bool := ltL (nmL ones tens hun scales m) (nmL ones tens hun scales n)
theorem ahead_nneg (lo hi n : Int) : 0 ≤ ahead ones tens hun scales lo hi n := Bg.sumR_nonneg _ fun j _ => by split <;> decide
theorem sumR_le {f g : Nat → Int} : ∀ n, (∀ j, j < n → f j ≤ g j) → Bg.sumR f n ≤ Bg.sumR g n
  | 0, _ => Int.le_refl 0
  | n + 1, h => by
    have a := sumR_le n fun j hj => h j (Nat.lt_succ_of_lt hj)
    have b := h n (Nat.lt_succ_self n)
    show Bg.sumR f n + f n ≤ Bg.sumR g n + g n
    omega
theorem sumR_lt {f g : Nat → Int} : ∀ n, (∀ j, j < n → f j ≤ g j) → ∀ i, i < n → f i < g i → Bg.sumR f n < Bg.sumR g n
  | n + 1, h, i, hi, lt => by
    have a := sumR_le n fun j hj => h j (Nat.lt_succ_of_lt hj)
    have b := h n (Nat.lt_succ_self n)
    show Bg.sumR f n + f n < Bg.sumR g n + g n
    by_cases e : i = n
    · subst e
      omega
    · have := sumR_lt n (fun j hj => h j (Nat.lt_succ_of_lt hj)) i (by omega) lt
      omega
theorem sumR_one : ∀ n, Bg.sumR (fun _ => 1) n = (n : Int)
  | 0 => rfl
  | n + 1 => by
    show Bg.sumR (fun _ => 1) n + 1 = _
    rw [sumR_one n]
    omega
theorem ahead_le {lo hi n : Int} (h : lo ≤ hi + 1) : ahead ones tens hun scales lo hi n ≤ hi - lo + 1 := by
  unfold ahead
  have := sumR_le (f := fun i : Nat => if ltL (nmL ones tens hun scales (lo + (i : Int))) (nmL ones tens hun scales n) = true then (1 : Int) else 0) (g := fun _ => 1) (hi - lo + 1).toNat fun j _ => by split <;> decide
  rw [sumR_one] at this
  omega
theorem ahead_in {lo hi n : Int} (h1 : lo ≤ n) (h2 : n ≤ hi) : ahead ones tens hun scales lo hi n ≤ hi - lo := by
  unfold ahead
  have := sumR_lt (f := fun i : Nat => if ltL (nmL ones tens hun scales (lo + (i : Int))) (nmL ones tens hun scales n) = true then (1 : Int) else 0) (g := fun _ => 1) (hi - lo + 1).toNat (fun j _ => by split <;> decide) (n - lo).toNat (by omega) (by
    rw [show lo + (((n - lo).toNat : Nat) : Int) = n by omega, ltL_irrefl]
    decide)
  rw [sumR_one] at this
  omega
theorem ahead_mono {lo hi a b : Int} (h : ltL (nmL ones tens hun scales b) (nmL ones tens hun scales a) = false) : ahead ones tens hun scales lo hi a ≤ ahead ones tens hun scales lo hi b := by
  unfold ahead
  refine sumR_le _ fun j _ => ?_
  by_cases c : ltL (nmL ones tens hun scales (lo + (j : Int))) (nmL ones tens hun scales a) = true
  · by_cases d : ltL (nmL ones tens hun scales (lo + (j : Int))) (nmL ones tens hun scales b) = true
    · rw [if_pos c, if_pos d]
      exact Int.le_refl _
    · exfalso
      cases q : ltL (nmL ones tens hun scales b) (nmL ones tens hun scales (lo + (j : Int))) with
      | true =>
        rw [ltL_trans q c] at h
        cases h
      | false =>
        have e := ltL_tri (by simpa using d) q
        rw [e] at c
        rw [h] at c
        cases c
  · rw [if_neg c]
    split <;> decide
theorem ahead_lt {lo hi a b : Int} (h1 : lo ≤ a) (h2 : a ≤ hi) (h : ltL (nmL ones tens hun scales a) (nmL ones tens hun scales b) = true) : ahead ones tens hun scales lo hi a < ahead ones tens hun scales lo hi b := by
  unfold ahead
  refine sumR_lt _ (fun j _ => ?_) (a - lo).toNat (by omega) ?_
  · by_cases c : ltL (nmL ones tens hun scales (lo + (j : Int))) (nmL ones tens hun scales a) = true
    · rw [if_pos c, if_pos (ltL_trans c h)]
      exact Int.le_refl _
    · rw [if_neg c]
      split <;> decide
  · rw [show lo + (((a - lo).toNat : Nat) : Int) = a by omega, ltL_irrefl, h]
    decide
theorem ahead_add {lo hi n : Int} (h : lo ≤ hi + 1) : ahead ones tens hun scales lo (hi + 1) n = ahead ones tens hun scales lo hi n + if ltL (nmL ones tens hun scales (hi + 1)) (nmL ones tens hun scales n) = true then 1 else 0 := by
  unfold ahead
  rw [show (hi + 1 - lo + 1).toNat = (hi - lo + 1).toNat + 1 by omega]
  show _ + (if ltL (nmL ones tens hun scales (lo + (((hi - lo + 1).toNat : Nat) : Int))) (nmL ones tens hun scales n) = true then (1 : Int) else 0) = _
  rw [show lo + (((hi - lo + 1).toNat : Nat) : Int) = hi + 1 by omega]
theorem ahead_grow {lo hi n : Int} : ∀ d : Nat, lo ≤ hi + 1 → ahead ones tens hun scales lo hi n ≤ ahead ones tens hun scales lo (hi + (d : Int)) n
  | 0, _ => by
    rw [show hi + ((0 : Nat) : Int) = hi by omega]
    exact Int.le_refl _
  | d + 1, h => by
    have ih := ahead_grow (n := n) d h
    rw [show hi + ((d + 1 : Nat) : Int) = hi + (d : Int) + 1 by omega, ahead_add ones tens hun scales (by omega)]
    split <;> omega
theorem ahead_cut {lo cut n : Int} : ∀ d : Nat, lo ≤ cut + 1 → ahead ones tens hun scales lo (cut + (d : Int)) n = ahead ones tens hun scales lo cut n + ahead ones tens hun scales (cut + 1) (cut + (d : Int)) n
  | 0, _ => by
    rw [show cut + ((0 : Nat) : Int) = cut by omega]
    unfold ahead
    rw [show (cut - (cut + 1) + 1).toNat = 0 by omega]
    show _ = _ + (0 : Int)
    omega
  | d + 1, h => by
    have ih := ahead_cut (n := n) d h
    rw [show cut + ((d + 1 : Nat) : Int) = cut + (d : Int) + 1 by omega, ahead_add ones tens hun scales (by omega), ahead_add ones tens hun scales (by omega), ih]
    omega
end
/-! ### names as texts -/
def jl : List (List Nat) → List Nat
  | [] => []
  | [x] => x
  | x :: y :: r => x ++ 32 :: jl (y :: r)
theorem glued_jl (xs : List Str) : (Txt.join " " xs).cps.toList = jl (xs.map fun x => x.cps.toList) := by
  have fold : ∀ (l : List Str) (acc : Array Nat), (l.foldl (fun acc p => acc ++ (" " : Str).cps ++ p.cps) acc).toList = acc.toList ++ (l.map fun x => 32 :: x.cps.toList).flatten := by
    intro l
    induction l with
    | nil =>
      intro acc
      simp
    | cons x l ih =>
      intro acc
      rw [List.foldl_cons, ih]
      have : (" " : Str).cps.toList = [32] := by decide +kernel
      simp [this]
  have flat : ∀ (x : List Nat) (l : List Str), x ++ (l.map fun x => 32 :: x.cps.toList).flatten = jl (x :: l.map fun x => x.cps.toList) := by
    intro x l
    induction l generalizing x with
    | nil => simp [jl]
    | cons y l ih =>
      show x ++ (32 :: y.cps.toList ++ (l.map fun x => 32 :: x.cps.toList).flatten) = x ++ 32 :: jl (y.cps.toList :: l.map fun x => x.cps.toList)
      rw [← ih y.cps.toList]
      rfl
  show (⟨(xs.drop 1).foldl (fun acc p => acc ++ (" " : Str).cps ++ p.cps) (xs.headD Str.empty).cps⟩ : Str).cps.toList = _
  show ((xs.drop 1).foldl (fun acc p => acc ++ (" " : Str).cps ++ p.cps) (xs.headD Str.empty).cps).toList = _
  rw [fold]
  cases xs with
  | nil => rfl
  | cons x l => exact flat x.cps.toList l
/-- words behind which something smaller or nothing stands: they are compared as words -/
theorem lt_words : ∀ {x y s t : List Nat}, (∀ c ∈ x, 32 < c) → (∀ c ∈ y, 32 < c) → (s = [] ∨ ∃ r, s = 32 :: r) → (t = [] ∨ ∃ r, t = 32 :: r) → x ≠ y → (x ++ s < y ++ t ↔ x < y)
  | [], [], _, _, _, _, _, _, ne => absurd rfl ne
  | [], b :: y, s, t, _, hy, hs, _, _ => by
    have hb := hy b List.mem_cons_self
    constructor
    · intro _
      exact List.nil_lt_cons b y
    · intro _
      rcases hs with rfl | ⟨r, rfl⟩
      · exact List.nil_lt_cons b (y ++ t)
      · exact List.cons_lt_cons_iff.mpr (.inl hb)
  | a :: x, [], s, t, hx, _, _, ht, _ => by
    have ha := hx a List.mem_cons_self
    constructor
    · intro h
      rcases ht with rfl | ⟨r, rfl⟩
      · exact absurd h (List.not_lt_nil _)
      · rcases List.cons_lt_cons_iff.mp h with z | ⟨z, _⟩ <;> omega
    · intro h
      exact absurd h (List.not_lt_nil _)
  | a :: x, b :: y, s, t, hx, hy, hs, ht, ne => by
    have ih : x ≠ y → (x ++ s < y ++ t ↔ x < y) := lt_words (fun c hc => hx c (List.mem_cons_of_mem _ hc)) (fun c hc => hy c (List.mem_cons_of_mem _ hc)) hs ht
    show a :: (x ++ s) < b :: (y ++ t) ↔ a :: x < b :: y
    rw [List.cons_lt_cons_iff, List.cons_lt_cons_iff]
    by_cases e : a = b
    · subst e
      have := ih fun z => ne (by rw [z])
      rw [this]
    · simp [e]
theorem lt_same : ∀ {x s t : List Nat}, (x ++ s < x ++ t ↔ s < t)
  | [], _, _ => Iff.rfl
  | a :: x, s, t => by
    show a :: (x ++ s) < a :: (x ++ t) ↔ s < t
    rw [List.cons_lt_cons_iff, lt_same (x := x)]
    constructor
    · rintro (h | ⟨_, h⟩)
      · omega
      · exact h
    · intro h
      exact .inr ⟨rfl, h⟩
theorem jl_cons (x : List Nat) (l : List (List Nat)) : ∃ s, jl (x :: l) = x ++ s ∧ ((l = [] ∧ s = []) ∨ (l ≠ [] ∧ s = 32 :: jl l)) := by
  cases l with
  | nil => exact ⟨[], by simp [jl], .inl ⟨rfl, rfl⟩⟩
  | cons y r => exact ⟨32 :: jl (y :: r), rfl, .inr ⟨by simp, rfl⟩⟩
/-- names as texts stand in the order of their lists of words -/
theorem name_lt : ∀ {a b : List Str}, (∀ x ∈ a, GoodWord x) → (∀ x ∈ b, GoodWord x) → b ≠ [] → a ≠ [] → decide ((Txt.join " " a).cps.toList < (Txt.join " " b).cps.toList) = ltL a b := by
  intro a
  induction a with
  | nil => intro b _ _ _ h; exact absurd rfl h
  | cons x a ih =>
    intro b ha hb hbn _
    cases b with
    | nil => exact absurd rfl hbn
    | cons y b =>
      rw [glued_jl, glued_jl, List.map_cons, List.map_cons]
      obtain ⟨s, es, hs⟩ := jl_cons x.cps.toList (a.map fun x => x.cps.toList)
      obtain ⟨t, et, ht⟩ := jl_cons y.cps.toList (b.map fun x => x.cps.toList)
      rw [es, et]
      have gx := ha x List.mem_cons_self
      have gy := hb y List.mem_cons_self
      have sx : ∀ c ∈ x.cps.toList, 32 < c := fun c hc => by have := (gx.2.2 c hc).1; omega
      have sy : ∀ c ∈ y.cps.toList, 32 < c := fun c hc => by have := (gy.2.2 c hc).1; omega
      show _ = if WkI.ltS x y = true then true else if x = y then ltL a b else false
      by_cases e : x = y
      · subst e
        rw [ltS_irrefl, if_neg Bool.false_ne_true, if_pos rfl]
        have q : decide (x.cps.toList ++ s < x.cps.toList ++ t) = decide (s < t) := decide_eq_decide.mpr lt_same
        rw [q]
        rcases hs with ⟨ea, rfl⟩ | ⟨ea, rfl⟩
        · have a0 : a = [] := by simpa using ea
          subst a0
          rcases ht with ⟨eb, rfl⟩ | ⟨eb, rfl⟩
          · have b0 : b = [] := by simpa using eb
            subst b0
            exact decide_eq_false (List.lt_irrefl _)
          · cases b with
            | nil => exact absurd rfl eb
            | cons z b => exact decide_eq_true (List.nil_lt_cons _ _)
        · have a0 : a ≠ [] := by simpa using ea
          rcases ht with ⟨eb, rfl⟩ | ⟨eb, rfl⟩
          · have b0 : b = [] := by simpa using eb
            subst b0
            have z : ltL a [] = false := by cases a <;> rfl
            rw [z]
            exact decide_eq_false (List.not_lt_nil _)
          · have b0 : b ≠ [] := by simpa using eb
            have i := ih (b := b) (fun x hx => ha x (List.mem_cons_of_mem _ hx)) (fun x hx => hb x (List.mem_cons_of_mem _ hx)) b0 a0
            rw [glued_jl, glued_jl] at i
            rw [← i]
            refine decide_eq_decide.mpr ?_
            rw [List.cons_lt_cons_iff]
            constructor
            · rintro (h | ⟨_, h⟩)
              · omega
              · exact h
            · intro h
              exact .inr ⟨rfl, h⟩
      · have ne : x.cps.toList ≠ y.cps.toList := fun z => e (by
          obtain ⟨⟨l⟩⟩ := x
          obtain ⟨⟨m⟩⟩ := y
          have z' : l = m := z
          rw [z'])
        have q : decide (x.cps.toList ++ s < y.cps.toList ++ t) = decide (x.cps.toList < y.cps.toList) := decide_eq_decide.mpr (lt_words sx sy (hs.imp (·.2) fun h => ⟨_, h.2⟩) (ht.imp (·.2) fun h => ⟨_, h.2⟩) ne)
        rw [q, if_neg e]
        show WkI.ltS x y = _
        cases WkI.ltS x y <;> rfl
end LB
set_option Elab.async false
set_option linter.all false
set_option maxRecDepth 100000
set_option maxHeartbeats 4000000
/-! A def with one default, None: what the top has written of it, how calls bind. -/
namespace LB
open PySem L2 Wk
/-- a def of the module, its last parameter with the default None -/
def DefD (K : PySem.W.Frag) (x : Str) (st : Stmt) (f : Addr) : Prop := PySem.W.nsIn K mainGlobals x = some (some (.ref f)) ∧
  (∃ (oc : Value) (od : Option Addr) (T : Addr) (kV doc pm : Value) (an : Option Addr) (cdv ct : Value) (osl : Array (Option Value)),
    K.lookup f = some ⟨oc, od, .func (PySem.W.fnOf x x (defArgs st) (defBody st) (defScope st) (.ref T) kV doc pm an cdv ct), osl⟩ ∧ PySem.W.codeIn K cdv x = true ∧ ∃ (oT : Obj) (n : Nat), K.lookup T = some oT ∧ oT.data = .seq #[.none] n) ∧ PySem.W.keepIn K (.ref f) = true
theorem DefD.fun {K : PySem.W.Frag} {x : Str} {st : Stmt} {f : Addr} (h : DefD K x st f) : ∃ fd, FunD K x x (defArgs st) (defBody st) (defScope st) [.non] [] f fd := by
  obtain ⟨_, ⟨oc, od, T, kV, doc, pm, an, cdv, ct, osl, l, c, oT, n, lT, dT⟩, kp⟩ := h
  exact ⟨_, ⟨oc, od, .ref T, kV, doc, pm, an, cdv, ct, osl, rfl, l, c, .inr ⟨by simp, T, oT, [.none], n, rfl, lT, dT, .cons rfl .nil⟩, .inl rfl⟩, kp⟩
/-- how its calls bind -/
structure Bind3 (K : PySem.W.Frag) (fd : FuncData) (ps ks : List Str) : Prop where
  b3 : Binds K fd ps []
  b2 : ∃ dn, Vals [V.non] [dn] ∧ Binds K fd ps [dn]
  kw : KBn K fd ps 0 ks (fun _ ws => [ws.getD 2 .none, ws.getD 1 .none, ws.getD 0 .none]) (fun _ zs => [zs.getD 2 .non, zs.getD 1 .non, zs.getD 0 .non])
theorem bind3 {K : PySem.W.Frag} {x : Str} {st : Stmt} {f : Addr} {fd : FuncData} {a b c : Str} (F : FunD K x x (defArgs st) (defBody st) (defScope st) [.non] [] f fd)
    (h3 : ∀ (T : Addr) (kV doc pm : Value) (an : Option Addr) (cdv ct : Value) (u v w d : Value),
      ∃ k, bindArgs (PySem.W.fnOf x x (defArgs st) (defBody st) (defScope st) (.ref T) kV doc pm an cdv ct) ⟨[u, v, w], []⟩ = seqItems? (.ref T) >>= k ∧ k (some #[d]) = pure (([a, b, c] : List Str).zip [u, v, w]))
    (h2 : ∀ (T : Addr) (kV doc pm : Value) (an : Option Addr) (cdv ct : Value) (u v d : Value),
      ∃ k, bindArgs (PySem.W.fnOf x x (defArgs st) (defBody st) (defScope st) (.ref T) kV doc pm an cdv ct) ⟨[u, v], []⟩ = seqItems? (.ref T) >>= k ∧ k (some #[d]) = pure (([a, b, c] : List Str).zip [u, v, d]))
    (hk : ∀ (T : Addr) (kV doc pm : Value) (an : Option Addr) (cdv ct : Value) (u v w d : Value),
      ∃ k, bindArgs (PySem.W.fnOf x x (defArgs st) (defBody st) (defScope st) (.ref T) kV doc pm an cdv ct) ⟨[], ([c, b, a] : List Str).zip [u, v, w]⟩ = seqItems? (.ref T) >>= k ∧ k (some #[d]) = pure (([a, b, c] : List Str).zip [w, v, u])) :
    Bind3 K fd [a, b, c] [c, b, a] := by
  refine ⟨?_, ?_, ?_⟩
  · obtain ⟨ds, r, q⟩ := F.binds1 (ps := [a, b, c]) 3 1 (by simp) rfl fun T kV doc pm an cdv ct us its h1 h4 => match us, its, h1, h4 with
      | [u, v, w], [d], _, _ => h3 T kV doc pm an cdv ct u v w d
    cases r
    exact q
  · obtain ⟨ds, r, q⟩ := F.binds1 (ps := [a, b, c]) 2 0 (by simp) rfl fun T kV doc pm an cdv ct us its h1 h4 => match us, its, h1, h4 with
      | [u, v], [d], _, _ => h2 T kV doc pm an cdv ct u v d
    cases r with
    | cons r1 r2 =>
      cases r2
      exact ⟨_, .cons r1 .nil, q⟩
  · obtain ⟨oc, od, dV, kV, doc, pm, an, cdv, ct, osl, rfl, lk, hcd, hD, hK⟩ := F.ex
    rcases hD with ⟨e, _⟩ | ⟨_, T, o, its, m, rfl, lT, oT, rT⟩
    · cases e
    · refine ⟨fun s us ws X e1 e2 => ?_, fun {vs us zs ws} r1 r2 => ?_⟩
      · match us, ws, its, e1, e2, rT, oT with
        | [], [u, v, w], [d], _, _, _, oT =>
          obtain ⟨k, q1, q2⟩ := hk T kV doc pm an cdv ct u v w d
          refine BindsTo.of_looks fun M => ?_
          rw [q1]
          exact looks_items X lT oT (.of_pure q2)
      · have at_ : ∀ j, RelV (zs.getD j .non) (ws.getD j .none) := by
          intro j
          induction r2 generalizing j with
          | nil => rfl
          | cons h _ ih =>
            cases j with
            | zero => exact h
            | succ j => exact ih j
        exact .cons (at_ 2) (.cons (at_ 1) (.cons (at_ 0) .nil))
end LB
set_option Elab.async false
set_option linter.all false
set_option maxRecDepth 100000
set_option maxHeartbeats 4000000
/-! The program's own: from what the top has written to the promises. -/
namespace LB
open PySem L2 Wk
open Bg (Bg Wo)
section
variable {P : Program} {w : World} {K : PySem.W.Frag} {mg : Str → Option Value} {base h : Heap}
theorem def1_mk {x : Str} {st : Stmt} {f : Addr} {ps : List Str} {k : Nat} {sp : Sp} (X : K.In h) (G : h.Ns mainGlobals mg) (a : DefAt K x st f)
    (b : ∀ (kV doc pm : Value) (an : Option Addr) (cdv ct : Value) (us : List Value), us.length = ps.length → bindArgs (PySem.W.fnOf x x (defArgs st) (defBody st) (defScope st) .none kV doc pm an cdv ct) ⟨us, []⟩ = pure (ps.zip us))
    (ok : ∀ fd, Fun K x x st f fd → FnOk P w K mg base CX0 k f fd ps sp) : ∃ fd, Def1 P w K mg base x k f fd ps sp := by
  obtain ⟨n, ⟨oc, od, kV, doc, pm, an, cdv, ct, osl, l, c⟩, kp⟩ := a
  have F := fun_mk (st := st) l c kp
  exact ⟨_, ok _ F, PySem.W.mg_of X G n, kp, F.binds b⟩
/-- the tuple ZERO of the top -/
def ZeroAt (K : PySem.W.Frag) (Z : Addr) : Prop := PySem.W.nsIn K mainGlobals "ZERO" = some (some (.ref Z)) ∧ ∃ (o : Obj) (a b c d : Tok) (m : Nat), K.lookup Z = some o ∧ o.cls = .type "tuple" ∧ o.data = .seq #[.int 0 a, .int 0 b, .int 1 c, .int 1 d] m
theorem zero_at {K : PySem.W.Frag} {Z : Addr} {o : Obj} {a b c d : Tok} {m : Nat} (n : PySem.W.nsIn K mainGlobals "ZERO" = some (some (.ref Z))) (l : K.lookup Z = some o) (c1 : o.cls = .type "tuple") (d1 : o.data = .seq #[.int 0 a, .int 0 b, .int 1 c, .int 1 d] m) : ZeroAt K Z := ⟨n, o, a, b, c, d, m, l, c1, d1⟩
theorem ZeroAt.tup {Z : Addr} (z : ZeroAt K Z) (H : Hp) : SqT K H Z (BgV Bg.zero) := by
  obtain ⟨_, o, a, b, c, d, m, l, c1, d1⟩ := z
  exact .inr ⟨o, _, m, l, c1, d1, by show 4 ≤ sizeLine; decide, .cons ⟨_, rfl⟩ (.cons ⟨_, rfl⟩ (.cons ⟨_, rfl⟩ (.cons ⟨_, rfl⟩ .nil)))⟩
/-- beginnings and how they go on -/
structure CoreA (P : Program) (w : World) (K : PySem.W.Frag) (mg : Str → Option Value) (base : Heap) : Prop where
  topOf : ∃ f fd, Def1 P w K mg base "top_of" 1 f fd ["table"] spTopOf
  worths : ∃ f fd, Def1 P w K mg base "worths" 1 f fd ["table"] spWorths
  vocab : ∃ f fd, Def1 P w K mg base "vocabulary" 2 f fd ["table"] spVocab
  start : ∃ f fd, Def1 P w K mg base "start" 2 f fd ["table"] (spStart K)
  fol : ∃ f fd, Def1 P w K mg base "followed" 2 f fd ["beginning", "worth"] (spFol K)
  steps : ∃ f fd, Def1 P w K mg base "steps" 3 f fd ["beginning", "words"] (spSteps K)
  count : ∃ f fd, Def1 P w K mg base "count_within" 2 f fd ["beginning", "low", "high"] (spCount K)
theorem coreA_mk {fT fW fV fS fF fP fC fH fO Z : Addr} (X : K.In h) (G : h.Ns mainGlobals mg) (aT : DefAt K "top_of" sTopOf fT) (aW : DefAt K "worths" sWorths fW) (aV : DefAt K "vocabulary" sVocab fV) (aS : DefAt K "start" sStart fS)
    (aF : DefAt K "followed" sFollowed fF) (aP : DefAt K "steps" sSteps fP) (aC : DefAt K "count_within" sCount fC) (aH : DefAt K "_has_words" sHas fH) (aO : DefAt K "_overlap" sOverlap fO) (z : ZeroAt K Z)
    (zE : PySem.W.nsIn K mainGlobals "enumerate" = some none) (zS : PySem.W.nsIn K mainGlobals "sorted" = some none) (zX : PySem.W.nsIn K mainGlobals "max" = some none) (zN : PySem.W.nsIn K mainGlobals "min" = some none) : CoreA P w K mg base := by
  have no : ∀ {x : Str}, PySem.W.nsIn K mainGlobals x = some none → mg x = none := fun z => PySem.W.mg_none_of X G z
  obtain ⟨dT, DT⟩ := def1_mk (P := P) (w := w) (base := base) (ps := ["table"]) X G aT (fun _ _ _ _ _ _ us hl => match us, hl with | [_], _ => rfl) fun fd F => ok_topOf F
  obtain ⟨dW, DW⟩ := def1_mk (P := P) (w := w) (base := base) (ps := ["table"]) X G aW (fun _ _ _ _ _ _ us hl => match us, hl with | [_], _ => rfl) fun fd F => ok_worths F (no zE)
  obtain ⟨dV, DV⟩ := def1_mk (P := P) (w := w) (base := base) (ps := ["table"]) X G aV (fun _ _ _ _ _ _ us hl => match us, hl with | [_], _ => rfl) fun fd F => ok_vocab F DW (no zS)
  obtain ⟨dS, DS⟩ := def1_mk (P := P) (w := w) (base := base) (ps := ["table"]) X G aS (fun _ _ _ _ _ _ us hl => match us, hl with | [_], _ => rfl) fun fd F => ok_start F DT
  obtain ⟨dH, DH⟩ := def1_mk (P := P) (w := w) (base := base) (ps := ["beginning"]) X G aH (fun _ _ _ _ _ _ us hl => match us, hl with | [_], _ => rfl) fun fd F => ok_has F
  obtain ⟨dO, DO⟩ := def1_mk (P := P) (w := w) (base := base) (ps := ["first", "end", "low", "high"]) X G aO (fun _ _ _ _ _ _ us hl => match us, hl with | [_, _, _, _], _ => rfl) fun fd F => ok_overlap F (no zX) (no zN)
  obtain ⟨dF, DF⟩ := def1_mk (P := P) (w := w) (base := base) (ps := ["beginning", "worth"]) X G aF (fun _ _ _ _ _ _ us hl => match us, hl with | [_, _], _ => rfl) fun fd F => ok_followed F DH (PySem.W.mg_of X G z.1) z.tup
  obtain ⟨dP, DP⟩ := def1_mk (P := P) (w := w) (base := base) (ps := ["beginning", "words"]) X G aP (fun _ _ _ _ _ _ us hl => match us, hl with | [_, _], _ => rfl) fun fd F => ok_steps F DF
  obtain ⟨dC, DC⟩ := def1_mk (P := P) (w := w) (base := base) (ps := ["beginning", "low", "high"]) X G aC (fun _ _ _ _ _ _ us hl => match us, hl with | [_, _, _], _ => rfl) fun fd F => ok_count F DO
  exact ⟨⟨_, _, DT⟩, ⟨_, _, DW⟩, ⟨_, _, DV⟩, ⟨_, _, DS⟩, ⟨_, _, DF⟩, ⟨_, _, DP⟩, ⟨_, _, DC⟩⟩
structure PA (K : PySem.W.Frag) (fT fW fV fS fF fP fC fH fO Z : Addr) : Prop where
  aT : DefAt K "top_of" sTopOf fT
  aW : DefAt K "worths" sWorths fW
  aV : DefAt K "vocabulary" sVocab fV
  aS : DefAt K "start" sStart fS
  aF : DefAt K "followed" sFollowed fF
  aP : DefAt K "steps" sSteps fP
  aC : DefAt K "count_within" sCount fC
  aH : DefAt K "_has_words" sHas fH
  aO : DefAt K "_overlap" sOverlap fO
  aZ : ZeroAt K Z
  zE : PySem.W.nsIn K mainGlobals "enumerate" = some none
  zS : PySem.W.nsIn K mainGlobals "sorted" = some none
  zX : PySem.W.nsIn K mainGlobals "max" = some none
  zN : PySem.W.nsIn K mainGlobals "min" = some none
theorem PA.core {fT fW fV fS fF fP fC fH fO Z : Addr} (p : PA K fT fW fV fS fF fP fC fH fO Z) (X : K.In h) (G : h.Ns mainGlobals mg) : CoreA P w K mg base :=
  coreA_mk X G p.aT p.aW p.aV p.aS p.aF p.aP p.aC p.aH p.aO p.aZ p.zE p.zS p.zX p.zN
/-- places -/
structure CoreB (P : Program) (w : World) (K : PySem.W.Frag) (mg : Str → Option Value) (base : Heap) : Prop where
  ends : ∃ f fd, Def1 P w K mg base "ends_within" 2 f fd ["beginning", "low", "high"] (spEnds K)
  own : ∃ f fd, Def1 P w K mg base "own_number" 1 f fd ["beginning"] (spOwn K)
  placeW : ∃ f fd, Def1 P w K mg base "place_within" 4 f fd ["table", "number", "low", "high"] spPlaceW
theorem coreB_mk {fG fW fS fO fE fP fH : Addr} (X : K.In h) (G : h.Ns mainGlobals mg) (A : CoreA P w K mg base) (aG : DefAt K "groups_of" sGroupsOf fG) (aW : DefAt K "_group_words" sGroupWords fW) (aS : DefAt K "spelled" sSpelled fS)
    (aH : DefAt K "_has_words" sHas fH) (aO : DefAt K "own_number" sOwn fO) (aE : DefAt K "ends_within" sEnds fE) (aP : DefAt K "place_within" sPlaceW fP)
    (zD : PySem.W.nsIn K mainGlobals "divmod" = some none) (zV : PySem.W.nsIn K mainGlobals "reversed" = some none) (zR : PySem.W.nsIn K mainGlobals "range" = some none) (zL : PySem.W.nsIn K mainGlobals "len" = some none) : CoreB P w K mg base := by
  have no : ∀ {x : Str}, PySem.W.nsIn K mainGlobals x = some none → mg x = none := fun z => PySem.W.mg_none_of X G z
  obtain ⟨_, _, DV⟩ := A.vocab
  obtain ⟨_, _, DS⟩ := A.start
  obtain ⟨_, _, DT⟩ := A.steps
  obtain ⟨_, _, DC⟩ := A.count
  obtain ⟨dG, DG⟩ := def1_mk (P := P) (w := w) (base := base) (ps := ["number"]) X G aG (fun _ _ _ _ _ _ us hl => match us, hl with | [_], _ => rfl) fun fd F => ok_groups F (no zD)
  obtain ⟨dW, DW⟩ := def1_mk (P := P) (w := w) (base := base) (ps := ["table", "group"]) X G aW (fun _ _ _ _ _ _ us hl => match us, hl with | [_, _], _ => rfl) fun fd F => ok_groupWords F (no zD)
  obtain ⟨dL, DL⟩ := def1_mk (P := P) (w := w) (base := base) (ps := ["table", "number"]) X G aS (fun _ _ _ _ _ _ us hl => match us, hl with | [_, _], _ => rfl) fun fd F => ok_spelled F DG DW (no zV) (no zR) (no zL)
  obtain ⟨dH, DH⟩ := def1_mk (P := P) (w := w) (base := base) (ps := ["beginning"]) X G aH (fun _ _ _ _ _ _ us hl => match us, hl with | [_], _ => rfl) fun fd F => ok_has F
  obtain ⟨dO, DO⟩ := def1_mk (P := P) (w := w) (base := base) (ps := ["beginning"]) X G aO (fun _ _ _ _ _ _ us hl => match us, hl with | [_], _ => rfl) fun fd F => ok_own F
  obtain ⟨dE, DE⟩ := def1_mk (P := P) (w := w) (base := base) (ps := ["beginning", "low", "high"]) X G aE (fun _ _ _ _ _ _ us hl => match us, hl with | [_, _, _], _ => rfl) fun fd F => ok_ends F DH DO
  obtain ⟨dP, DP⟩ := def1_mk (P := P) (w := w) (base := base) (ps := ["table", "number", "low", "high"]) X G aP (fun _ _ _ _ _ _ us hl => match us, hl with | [_, _, _, _], _ => rfl) fun fd F => ok_placeW F DV DS DL DE DT DC
  exact ⟨⟨_, _, DE⟩, ⟨_, _, DO⟩, ⟨_, _, DP⟩⟩
structure PB (K : PySem.W.Frag) (fG fW fS fO fE fP : Addr) : Prop where
  aG : DefAt K "groups_of" sGroupsOf fG
  aW : DefAt K "_group_words" sGroupWords fW
  aS : DefAt K "spelled" sSpelled fS
  aO : DefAt K "own_number" sOwn fO
  aE : DefAt K "ends_within" sEnds fE
  aP : DefAt K "place_within" sPlaceW fP
  zD : PySem.W.nsIn K mainGlobals "divmod" = some none
  zV : PySem.W.nsIn K mainGlobals "reversed" = some none
  zR : PySem.W.nsIn K mainGlobals "range" = some none
  zL : PySem.W.nsIn K mainGlobals "len" = some none
theorem PB.core {fT fW fV fS fF fP fC fH fO Z gG gW gS gO gE gP : Addr} (q : PB K gG gW gS gO gE gP) (p : PA K fT fW fV fS fF fP fC fH fO Z) (X : K.In h) (G : h.Ns mainGlobals mg) : CoreB P w K mg base :=
  coreB_mk X G (p.core X G) q.aG q.aW q.aS p.aH q.aO q.aE q.aP q.zD q.zV q.zR q.zL
end
end LB
set_option Elab.async false
set_option linter.all false
set_option maxRecDepth 100000
set_option maxHeartbeats 4000000
/-! The program's own on valid arguments: limit, place, number_at. -/
namespace LB
open PySem L2 Wk
open Bg (Bg Wo)
/-- a valid table -/
structure Tab (H : Hp) (t : Addr) (ones tens : List Str) (hun : Str) (scales : List Str) (o te sc : Addr) : Prop where
  tb : Tbl H t ones tens hun scales o te sc
  good : GoodRow (ones ++ (tens ++ hun :: scales))
theorem Tab.same {H H' : Hp} {t : Addr} {ones tens : List Str} {hun : Str} {scales : List Str} {o te sc : Addr} (T : Tab H t ones tens hun scales o te sc) (s : Same H H') : Tab H' t ones tens hun scales o te sc := ⟨T.tb.same s, T.good⟩
theorem Tab.voc {H : Hp} {t : Addr} {ones tens : List Str} {hun : Str} {scales : List Str} {o te sc : Addr} {ws : List (Str × Wo)} (T : Tab H t ones tens hun scales o te sc) (p : ws.Perm (voc ones tens hun scales)) (a : ascW ws) : Voc ones tens hun scales ws :=
  ⟨p, a, T.tb.l1, T.tb.l2, T.tb.nd⟩
/-- the bound: below, or all numbers -/
def bnd (W : Int) (most : V) : Int := match most with
  | .int m => m
  | _ => W
theorem _root_.L2.FunD.ok0 {P : Program} {w : World} {K : PySem.W.Frag} {mg : Str → Option Value} {base : Heap} {x qual : Str} {params : Arguments} {body : List Stmt} {scope : Scope} {dvs : List V} {kws : List (Str × V)} {f : Addr} {fd : FuncData} {N ps : List Str} {k : Nat} {sp : Sp}
    (F : FunD K x qual params body scope dvs kws f fd) (S : FnScope N ps scope) (len : ∀ vs H Q E, sp vs H Q E → vs.length = ps.length)
    (hbody : ∀ (cdv : Value) (A : Around) (outer : List Env) (s : Shared) (H : Hp) (vs : List V) (Q : VK) (E : XK), Room k (A.deeper (PyProof.Rows.envOfC qual scope s.heap.objs.size f cdv)) → sp vs H Q E →
      ∃ t, PSs (cxOf CX0 P w K mg base N qual scope f cdv A outer s H E).nox body t ∧ t { nx := fun _ H' => Q .non H', rt := Q } (L2.start N vs) H) : FnOk P w K mg base CX0 (k + 1) f fd ps sp :=
  F.ok S len fun cdv A outer s H vs Q E hr h => by
    obtain ⟨t, p, q⟩ := hbody cdv A outer s H vs Q E hr h
    exact ⟨t, p.nox, q⟩
def spLimit0 : Sp := fun vs H Q _ => ∃ (t o te sc : Addr) (ones tens : List Str) (hun : Str) (scales : List Str), vs = [.ref t] ∧ Tab H t ones tens hun scales o te sc ∧ ∀ H', Same H H' → Q (.int (Bg.W (scales.length + 1))) H'
def spBelow0 : Sp := fun vs H Q _ => ∃ (t o te sc : Addr) (ones tens : List Str) (hun : Str) (scales : List Str) (most : V), vs = [.ref t, most] ∧ Tab H t ones tens hun scales o te sc ∧
  (most = .non ∨ ∃ m : Int, most = .int m ∧ 1 ≤ m ∧ m ≤ Bg.W (scales.length + 1)) ∧ ∀ H', Same H H' → Q (.int (bnd (Bg.W (scales.length + 1)) most)) H'
def spPlace0 : Sp := fun vs H Q _ => ∃ (t o te sc : Addr) (ones tens : List Str) (hun : Str) (scales : List Str) (n : Int) (most : V), vs = [.ref t, .int n, most] ∧ Tab H t ones tens hun scales o te sc ∧
  (most = .non ∨ ∃ m : Int, most = .int m ∧ 1 ≤ m ∧ m ≤ Bg.W (scales.length + 1)) ∧ 0 ≤ n ∧ n < bnd (Bg.W (scales.length + 1)) most ∧
  ∀ H', Same H H' → Q (.int (ahead ones tens hun scales 0 (bnd (Bg.W (scales.length + 1)) most - 1) n)) H'
def spNumAt0 : Sp := fun vs H Q _ => ∃ (t o te sc : Addr) (ones tens : List Str) (hun : Str) (scales : List Str) (n : Int) (most : V), vs = [.ref t, .int n, most] ∧ Tab H t ones tens hun scales o te sc ∧
  (most = .non ∨ ∃ m : Int, most = .int m ∧ 1 ≤ m ∧ m ≤ Bg.W (scales.length + 1)) ∧ 0 ≤ n ∧ n < bnd (Bg.W (scales.length + 1)) most ∧
  ∀ r H', Same H H' → 0 ≤ r → r < bnd (Bg.W (scales.length + 1)) most → ahead ones tens hun scales 0 (bnd (Bg.W (scales.length + 1)) most - 1) r = n → Q (.int r) H'
theorem bnd_0 {W : Int} {most : V} (w : 1 ≤ W) (h : most = .non ∨ ∃ m : Int, most = .int m ∧ 1 ≤ m ∧ m ≤ W) : 1 ≤ bnd W most ∧ bnd W most ≤ W := by
  rcases h with rfl | ⟨m, rfl, h⟩
  · exact ⟨w, Int.le_refl _⟩
  · exact h
section
variable {P : Program} {w : World} {K : PySem.W.Frag} {mg : Str → Option Value} {base : Heap}
theorem scLimit0 : FnScope ["table"] ["table"] (defScope sLimit) := ⟨rfl, rfl, rfl, by decide +kernel, rfl, by decide +kernel, by decide +kernel⟩
theorem ok_limit0 {f fC fT : Addr} {fd dC dT : FuncData} (F : Fun K "limit" "limit" sLimit f fd) (C : Def1 P w K mg base "check_table" 2 fC dC ["table"] spCheck) (T : Def1 P w K mg base "top_of" 1 fT dT ["table"] spTopOf) : FnOk P w K mg base CX0 3 f fd ["table"] spLimit0 := by
  refine F.ok scLimit0 (fun vs H Q E h => ?_) (fun cdv A outer s H vs Q E hr h => ?_)
  · obtain ⟨t, o, te, sc, ones, tens, hun, scales, rfl, _⟩ := h
    rfl
  · obtain ⟨t, o, te, sc, ones, tens, hun, scales, rfl, TB, k⟩ := h
    have l3 := TB.tb.l3
    refine ⟨_, pss_cons (ps_expr (pe_call C.ok hr (by rfl) C.g C.k C.b .nil pass0 (pa_cons (pv 0) pa_nil)))
      (pss_one (ps_ret (pe_call T.ok (hr.mono (by decide)) (by rfl) T.g T.k T.b .nil pass0 (pa_cons (pv 0) pa_nil)))), ?_⟩
    refine ⟨_, rfl, t, o, te, sc, ones, tens, hun, scales, rfl, TB.tb.at_, TB.tb.l1, TB.tb.l2, by omega, TB.good, fun H1 s1 => ?_⟩
    have T1 := TB.same s1
    refine ⟨_, rfl, t, o, te, sc, ones, tens, hun, scales, rfl, T1.tb.at_, by omega, ?_⟩
    rw [limit_W]
    exact k _ s1
theorem scBelow0 : FnScope ["table", "below", "top"] ["table", "below"] (defScope sBelow) := ⟨rfl, rfl, rfl, by decide +kernel, rfl, by decide +kernel, by decide +kernel⟩
theorem ok_below0 {f fL : Addr} {fd dL : FuncData} (F : Fun K "checked_below" "checked_below" sBelow f fd) (L : Def1 P w K mg base "limit" 3 fL dL ["table"] spLimit0) : FnOk P w K mg base CX0 4 f fd ["table", "below"] spBelow0 := by
  refine F.ok scBelow0 (fun vs H Q E h => ?_) (fun cdv A outer s H vs Q E hr h => ?_)
  · obtain ⟨t, o, te, sc, ones, tens, hun, scales, most, rfl, _⟩ := h
    rfl
  · obtain ⟨t, o, te, sc, ones, tens, hun, scales, most, rfl, TB, hm, k⟩ := h
    refine ⟨_, pss_cons (ps_set (i := 2) scBelow0.nd rfl (.inl rfl) (pe_call L.ok hr (by rfl) L.g L.k L.b .nil pass0 (pa_cons (pv 0) pa_nil)))
      (pss_cons (ps_if (pt_cmp (pc_isN (pv 1))) (pss_one (ps_ret (pv 2))) pss_nil)
      (pss_cons (ps_if (PW.pt (pw_or (pt_cmpR op_lt (pv 1) pe_int (nomark _)) (pw_or1 (pt_cmpR op_gt (pv 1) (pv 2) (nomark _))))) pss_never pss_nil)
      (pss_one (ps_ret (pv 1))))), ?_⟩
    refine ⟨_, rfl, t, o, te, sc, ones, tens, hun, scales, rfl, TB, fun H1 s1 => ?_⟩
    rcases hm with rfl | ⟨m, rfl, m1, m2⟩
    · exact ⟨_, rfl, _, rfl, ite2 (fun _ => ⟨_, rfl, k _ s1⟩) (fun z => absurd (decide_eq_true rfl) z)⟩
    · refine ⟨_, rfl, _, rfl, ite2 (fun z => absurd (of_decide_eq_true z) (by simp)) (fun _ => ?_)⟩
      refine ⟨_, rfl, _, _, rfl, rfl, _, rfl, ite2 (fun c1 => ?_) (fun c1 => ?_)⟩
      · have := of_decide_eq_true c1
        omega
      · refine ⟨_, rfl, _, rfl, _, _, rfl, rfl, _, rfl, ite2 (fun c2 => ?_) (fun c2 => ?_)⟩
        · have := of_decide_eq_true c2
          omega
        · exact ⟨_, rfl, k _ s1⟩
theorem scPlace0 : FnScope ["table", "number", "below", "bound"] ["table", "number", "below"] (defScope sPlace) := ⟨rfl, rfl, rfl, by decide +kernel, rfl, by decide +kernel, by decide +kernel⟩
theorem ok_place0 {f fB fP : Addr} {fd dB dP : FuncData} (F : FunD K "place" "place" (defArgs sPlace) (defBody sPlace) (defScope sPlace) [.non] [] f fd)
    (B : Def1 P w K mg base "checked_below" 4 fB dB ["table", "below"] spBelow0) (DP : Def1 P w K mg base "place_within" 4 fP dP ["table", "number", "low", "high"] spPlaceW) : FnOk P w K mg base CX0 5 f fd ["table", "number", "below"] spPlace0 := by
  refine F.ok0 scPlace0 (fun vs H Q E h => ?_) (fun cdv A outer s H vs Q E hr h => ?_)
  · obtain ⟨t, o, te, sc, ones, tens, hun, scales, n, most, rfl, _⟩ := h
    rfl
  · obtain ⟨t, o, te, sc, ones, tens, hun, scales, n, most, rfl, TB, hm, n0, n1, k⟩ := h
    obtain ⟨b1, b2⟩ := bnd_0 (Bg.W_pos (scales.length + 1)) hm
    refine ⟨_, pss_cons (ps_set (i := 3) scPlace0.nd rfl (.inl rfl) (pe_call B.ok hr (by rfl) B.g B.k B.b .nil pass0 (pa_cons (pv 0) (pa_cons (pv 2) pa_nil))))
      (pss_cons (ps_if (PW.pt (pw_or (pt_cmpR op_lt (pv 1) pe_int (nomark _)) (pw_or1 (pt_cmpR op_ge (pv 1) (pv 3) (nomark _))))) pss_never pss_nil)
      (pss_one (ps_ret (pe_call DP.ok hr (by rfl) DP.g DP.k DP.b .nil pass0 (pa_cons (pv 0) (pa_cons (pv 1) (pa_cons pe_int (pa_cons (pe_op op_sub (pv 3) pe_int) pa_nil)))))))), ?_⟩
    refine ⟨_, rfl, _, rfl, t, o, te, sc, ones, tens, hun, scales, most, rfl, TB, hm, fun H1 s1 => ?_⟩
    generalize bnd (Bg.W (scales.length + 1)) most = bound at k b1 b2 n1
    refine ⟨_, rfl, _, _, rfl, rfl, _, rfl, ite2 (fun c1 => ?_) (fun c1 => ?_)⟩
    · have := of_decide_eq_true c1
      omega
    · refine ⟨_, rfl, _, rfl, _, _, rfl, rfl, _, rfl, ite2 (fun c2 => ?_) (fun c2 => ?_)⟩
      · have := of_decide_eq_true c2
        omega
      · refine ⟨_, rfl, _, rfl, _, rfl, _, _, rfl, rfl, t, o, te, sc, ones, tens, hun, scales, n, 0, bound - 1, rfl, TB.tb.same s1, n0, by omega, by omega, fun ws H' s2 p a => ?_⟩
        rw [place_is (TB.voc p a) (Int.le_refl 0) (by omega) (by omega) n0 (by omega)]
        exact k _ (s1.trans s2)
end
end LB
set_option Elab.async false
set_option linter.all false
set_option maxRecDepth 100000
set_option maxHeartbeats 4000000
/-! Family B: the law's own names and numbers. -/
namespace LB
open PySem L2 Wk
open Bg (Bg Wo)
theorem wds_dp {K : PySem.W.Frag} {H : Hp} : ∀ l : List Str, DpAll K H (l.map V.str) (l.map PyData.str)
  | [] => .nil
  | x :: l => .cons (.str x) (wds_dp l)
theorem wds_lay : ∀ l : List Str, (∀ x ∈ l, ∀ c ∈ x.cps.toList, c < 128) → PyData.canLayAll0 (l.map PyData.str) = true ∧ PyData.depthAll (l.map PyData.str) ≤ 1
  | [], _ => ⟨rfl, by decide⟩
  | x :: l, h => by
    obtain ⟨a, b⟩ := wds_lay l fun y hy => h y (List.mem_cons_of_mem _ hy)
    have hc := h x List.mem_cons_self
    refine ⟨?_, ?_⟩
    · rw [List.map_cons, PyData.canLayAll0, a, Bool.and_true, PyData.canLay0]
      unfold PyData.strOk
      rw [Array.all_eq_true_iff_forall_mem]
      intro c hm
      have := hc c (Array.mem_toList_iff.mpr hm)
      exact decide_eq_true (by omega)
    · rw [List.map_cons, PyData.depthAll, PyData.depth]
      omega
theorem wds_shaped {l : List Str} (h : ∀ x ∈ l, ∀ c ∈ x.cps.toList, c < 128) : SeqAt.shaped (.list (l.map PyData.str)) = true := by
  obtain ⟨a, b⟩ := wds_lay l h
  unfold SeqAt.shaped
  rw [PyData.canLay0, a, PyData.depth]
  simp
  omega
theorem wds_eqv (l : List Str) : PyData.eqv (.list (l.map PyData.str)) (.list []) = l.isEmpty := by
  cases l with
  | nil => rfl
  | cons c l => rfl
theorem wd_mem {ones tens : List Str} {hun : Str} {scales : List Str} (x : Wo) : wd ones tens hun scales x ∈ ones ++ (tens ++ hun :: scales) := by
  have hh : hun ∈ ones ++ (tens ++ hun :: scales) := List.mem_append_right _ (List.mem_append_right _ List.mem_cons_self)
  have get : ∀ {l : List Str} {i : Nat}, (∀ y ∈ l, y ∈ ones ++ (tens ++ hun :: scales)) → (l[i]?).getD hun ∈ ones ++ (tens ++ hun :: scales) := by
    intro l i h
    cases q : l[i]? with
    | none => exact hh
    | some y => exact h y (List.mem_of_getElem? q)
  unfold wd
  cases x with
  | low n =>
    simp only
    split
    · exact get fun y hy => List.mem_append_left _ hy
    · exact get fun y hy => List.mem_append_right _ (List.mem_append_left _ hy)
  | hun => exact hh
  | sc i => exact get fun y hy => List.mem_append_right _ (List.mem_append_right _ (List.mem_cons_of_mem _ hy))
theorem names_low {ones tens : List Str} {hun : Str} {scales : List Str} (good : GoodRow (ones ++ (tens ++ hun :: scales))) (A : List Wo) : ∀ x ∈ A.map (wd ones tens hun scales), ∀ c ∈ x.cps.toList, c < 128 := by
  intro x hx c hc
  obtain ⟨y, _, rfl⟩ := List.mem_map.mp hx
  have := (good.ok _ (wd_mem y)).2.2 c hc
  omega
def spSpelt : Sp := fun vs H Q _ => ∃ (t o te sc : Addr) (ones tens : List Str) (hun : Str) (scales : List Str) (n : Int), vs = [.ref t, .int n] ∧ Tab H t ones tens hun scales o te sc ∧ 0 ≤ n ∧ n < Bg.W (scales.length + 1) ∧
  ∀ p H', H p = none → Same H H' → H' p = some (.lst ((nmL ones tens hun scales n).map V.str)) → Q (.ref p) H'
theorem partW_split (n : Int) (j : Nat) : Bg.partW n j = Bg.groupW (Bg.gr n j) ++ (if (Bg.groupW (Bg.gr n j)).isEmpty = false ∧ j > 0 then [.sc (j - 1)] else []) := by
  have gb := Bg.gr_bnd n j
  unfold Bg.partW
  by_cases c : Bg.gr n j > 0
  · rw [if_pos c]
    have ne : (Bg.groupW (Bg.gr n j)).isEmpty = false := by
      unfold Bg.groupW
      by_cases c1 : Bg.gr n j / 100 > 0
      · rw [if_pos c1]
        rfl
      · rw [if_neg c1]
        by_cases c2 : Bg.gr n j % 100 ≥ 20
        · rw [if_pos c2]
          rfl
        · rw [if_neg c2, if_pos (by omega)]
          rfl
    by_cases d : j > 0
    · rw [if_pos d, if_pos ⟨ne, d⟩]
    · rw [if_neg d, if_neg (by omega)]
  · have z : Bg.gr n j = 0 := by omega
    rw [if_neg c, z]
    rfl
section
variable {P : Program} {w : World} {K : PySem.W.Frag} {mg : Str → Option Value} {base : Heap}
end
end LB
set_option Elab.async false
set_option linter.all false
set_option maxRecDepth 100000
set_option maxHeartbeats 4000000
/-! Family B: great numbers. -/
namespace LB
open PySem L2 Wk
open Bg (Bg Wo)
/-- all but the source of draws is as it was -/
def Kp (p : Addr) (H G : Hp) : Prop := ∀ q o, H q = some o → q ≠ p → G q = some o
theorem Kp.refl (p : Addr) (H : Hp) : Kp p H H := fun _ _ h _ => h
theorem Kp.trans {p : Addr} {H G J : Hp} (a : Kp p H G) (b : Kp p G J) : Kp p H J := fun q o h n => b q o (a q o h n) n
theorem Kp.same {p : Addr} {H G J : Hp} (a : Kp p H G) (b : Same G J) : Kp p H J := fun q o h n => b q o (a q o h n)
theorem Kp.lst {p q : Addr} {H G : Hp} {xs : List V} (a : Kp p H G) (h : H q = some (.lst xs)) (n : q ≠ p) : G q = some (.lst xs) := a q _ h n
theorem RngAt.same {H G : Hp} {p : Addr} {d s c : Int} (B : RngAt H p d s c) (e : Same H G) : RngAt G p d s c := ⟨e _ _ B.at_, B.d0, B.s0, B.s1, B.c0⟩
/-- a list of texts is not the source -/
theorem RngAt.off {H : Hp} {p a : Addr} {d s c : Int} {xs : List Str} (B : RngAt H p d s c) (h : H a = some (.lst (xs.map V.str))) : a ≠ p := fun e => by
  rw [e, B.at_] at h
  cases xs with
  | nil => cases h
  | cons x r => cases h
theorem Tab.kp {H G : Hp} {p t o te sc : Addr} {d s c : Int} {ones tens : List Str} {hun : Str} {scales : List Str} (T : Tab H t ones tens hun scales o te sc) (B : RngAt H p d s c) (k : Kp p H G) : Tab G t ones tens hun scales o te sc := by
  have A := T.tb.at_
  refine ⟨⟨⟨k _ _ A.tup fun z => ?_, k _ _ A.lo (B.off A.lo), k _ _ A.lt (B.off A.lt), k _ _ A.ls (B.off A.ls)⟩, T.tb.l1, T.tb.l2, T.tb.l3, T.tb.nd⟩, T.good⟩
  have e := A.tup
  rw [z, B.at_] at e
  cases e
theorem W_small {j : Nat} (h : j ≤ 95) : (Bg.W j).natAbs < 2 ^ 1000 := by
  have e : Bg.W j = ((1000 ^ j : Nat) : Int) := by
    show (1000 : Int) ^ j = _
    rw [Int.natCast_pow]
    rfl
  rw [e]
  show 1000 ^ j < 2 ^ 1000
  have a : (1000 : Nat) ^ j ≤ (2 ^ 10) ^ j := Nat.pow_le_pow_left (by decide) j
  rw [← Nat.pow_mul] at a
  have b : (2 : Nat) ^ (10 * j) ≤ 2 ^ 950 := Nat.pow_le_pow_right (by decide) (by omega)
  have c : (2 : Nat) ^ 950 < 2 ^ 1000 := Nat.pow_lt_pow_right (by decide) (by decide)
  exact Nat.lt_of_le_of_lt (Nat.le_trans a b) c
/-- what a call that draws leaves: a number, the source, all else as it was -/
def Drawn (H : Hp) (p : Addr) (s c : Int) (n : Int) (G : Hp) : Prop := ∃ d' c', RngAt G p d' s c' ∧ c' ≤ c + n ∧ Kp p H G
def spGreat : Sp := fun vs H Q _ => ∃ (p : Addr) (d s c : Int) (k : Nat), vs = [.ref p, .int (Bg.W (k + 1))] ∧ RngAt H p d s c ∧ k ≤ 20 ∧ c < 2 ^ 29 ∧
  ∀ r H', 0 ≤ r → r < Bg.W (k + 1) → Drawn H p s c 100 H' → Q (.int r) H'
section
variable {P : Program} {w : World} {K : PySem.W.Frag} {mg : Str → Option Value} {base : Heap}
/-- the reading of a draw -/
theorem draw_use {H : Hp} {p : Addr} {d s c upper : Int} {Q : VK} {E : XK} (B : RngAt H p d s c) (u0 : 0 < upper) (u1 : upper.natAbs < 2 ^ 1000) (hc : c < 2 ^ 30) (k : ∀ r d' c' G, 0 ≤ r → r < upper → c' ≤ c + 1 → RngAt G p d' s c' → Kp p H G → Q (.int r) G) : spDraw [.ref p, .int upper] H Q E :=
  ⟨p, d, s, c, upper, rfl, B, u0, u1, hc, fun r d' c' G h1 h2 h3 h4 h5 => k r d' c' G h1 h2 h3 h4 h5⟩
end
end LB
set_option Elab.async false
set_option linter.all false
set_option maxRecDepth 100000
set_option maxHeartbeats 8000000
/-! Names as texts, numbers compared. -/
namespace LB
open PySem L2 Wk
open Bg (Bg Wo)
/-- sep.join(xs) where K is known beforehand: within a comprehension -/
def rJn (K : PySem.W.Frag) : V → List V → Hp → VK → Prop := fun x xs H Q => ∃ a p, ∃ ys : List Str, x = .str a ∧ xs = [.ref p] ∧ (SqL K H p (ys.map V.str) ∨ SqT K H p (ys.map V.str)) ∧ (ys.map (·.length)).sum + ys.length * a.length ≤ 16777216 ∧ Q (.str (Txt.join a ys)) H
theorem pe_joinK {X : Cx} {o e : Expr} {to te : TE} {apos pos : Pos} (K : PySem.W.Frag) (hK : X.K = K) (ho : PE X o to) (he : PE X e te) (hs : starEach [e] X.env = [(false, eval e X.env)] := by rfl) (hbase : attributeBase o "join" X.env (eval o X.env) = eval o X.env := by rfl) (hline : (apos.endLine == pos.line) = true := by rfl) :
    PE X (.Call (.Attribute o "join" apos) [e] [] pos) (tM1 (rJn K) to te) := by
  subst hK
  exact pe_join ho he hs hbase hline
/-- a sorted vocabulary there is -/
theorem sort_one (x : Str × Wo) : ∀ {ws : List (Str × Wo)}, ascW ws → (∀ e ∈ ws, e.1 ≠ x.1) → ∃ us, us.Perm (x :: ws) ∧ ascW us
  | [], _, _ => ⟨[x], List.Perm.refl _, List.pairwise_singleton _ _⟩
  | y :: ws, h, n => by
    obtain ⟨hd, tl⟩ := List.pairwise_cons.mp h
    cases c : WkI.ltS x.1 y.1 with
    | true =>
      refine ⟨x :: y :: ws, List.Perm.refl _, List.pairwise_cons.mpr ⟨fun e he => ?_, h⟩⟩
      rcases List.mem_cons.mp he with rfl | he
      · exact c
      · exact ltS_trans c (hd e he)
    | false =>
      have lt : WkI.ltS y.1 x.1 = true := by
        cases d : WkI.ltS y.1 x.1 with
        | true => rfl
        | false => exact absurd (WkI.ltS_tri d c) (n y List.mem_cons_self)
      obtain ⟨us, p, a⟩ := sort_one x tl fun e he => n e (List.mem_cons_of_mem _ he)
      refine ⟨y :: us, (List.Perm.cons y p).trans (List.Perm.swap x y ws), List.pairwise_cons.mpr ⟨fun e he => ?_, a⟩⟩
      rcases List.mem_cons.mp (p.mem_iff.mp he) with rfl | he
      · exact lt
      · exact hd e he
theorem sort_all : ∀ {l : List (Str × Wo)}, (l.map (·.1)).Nodup → ∃ ws, ws.Perm l ∧ ascW ws
  | [], _ => ⟨[], List.Perm.refl _, List.Pairwise.nil⟩
  | x :: l, h => by
    rw [List.map_cons, List.nodup_cons] at h
    obtain ⟨ws, p, a⟩ := sort_all h.2
    obtain ⟨us, q, b⟩ := sort_one x a fun e he z => h.1 (List.mem_map.mpr ⟨e, p.mem_iff.mp he, z⟩)
    exact ⟨us, q.trans (List.Perm.cons x p), b⟩
theorem Tab.has_voc {H : Hp} {t : Addr} {ones tens : List Str} {hun : Str} {scales : List Str} {o te sc : Addr} (T : Tab H t ones tens hun scales o te sc) : ∃ ws, Voc ones tens hun scales ws := by
  have n : ((LB.voc ones tens hun scales).map (·.1)).Nodup := by
    rw [voc_fst]
    exact (perm_hun ones tens hun scales).nodup_iff.mpr T.tb.nd
  obtain ⟨ws, p, a⟩ := sort_all n
  exact ⟨ws, T.voc p a⟩
section
variable {ones tens : List Str} {hun : Str} {scales : List Str} {ws : List (Str × Wo)}
/-- two numbers, one name ahead of the other -/
theorem less_or (V : Voc ones tens hun scales ws) {a b : Int} (a0 : 0 ≤ a) (a1 : a < Bg.W (scales.length + 1)) (b0 : 0 ≤ b) (b1 : b < Bg.W (scales.length + 1)) (ne : a ≠ b) (h : ltL (nmL ones tens hun scales a) (nmL ones tens hun scales b) = false) :
    ltL (nmL ones tens hun scales b) (nmL ones tens hun scales a) = true := by
  cases c : ltL (nmL ones tens hun scales b) (nmL ones tens hun scales a) with
  | true => rfl
  | false => exact absurd (name_inj V a0 a1 b0 b1 (ltL_tri h c)) ne
/-- places below a bound are in the order of the names -/
theorem place_lt (V : Voc ones tens hun scales ws) {a b m : Int} (a0 : 0 ≤ a) (b0 : 0 ≤ b) (am : a < m) (bm : b < m) (m1 : m ≤ Bg.W (scales.length + 1)) (ne : a ≠ b) :
    decide (ahead ones tens hun scales 0 (m - 1) a < ahead ones tens hun scales 0 (m - 1) b) = ltL (nmL ones tens hun scales a) (nmL ones tens hun scales b) := by
  cases c : ltL (nmL ones tens hun scales a) (nmL ones tens hun scales b) with
  | true => exact decide_eq_true (ahead_lt ones tens hun scales a0 (by omega) c)
  | false =>
    have d := less_or V a0 (by omega) b0 (by omega) ne c
    have := ahead_lt ones tens hun scales (lo := 0) (hi := m - 1) b0 (by omega) d
    exact decide_eq_false (by omega)
theorem ahead_up {m m' n : Int} (h0 : 1 ≤ m) (h : m ≤ m') : ahead ones tens hun scales 0 (m - 1) n ≤ ahead ones tens hun scales 0 (m' - 1) n := by
  have := ahead_grow ones tens hun scales (lo := 0) (hi := m - 1) (n := n) (m' - m).toNat (by omega)
  rw [show m - 1 + (((m' - m).toNat : Nat) : Int) = m' - 1 by omega] at this
  exact this
theorem nm_good (good : GoodRow (ones ++ (tens ++ hun :: scales))) (n : Int) : ∀ x ∈ nmL ones tens hun scales n, GoodWord x := by
  intro x hx
  obtain ⟨y, _, rfl⟩ := List.mem_map.mp hx
  exact good.ok _ (wd_mem y)
theorem nm_ne {n : Int} (h0 : 0 ≤ n) (h1 : n < Bg.W (scales.length + 1)) : nmL ones tens hun scales n ≠ [] := by
  intro h
  have e : Bg.nameW n (scales.length + 1) = [] := List.map_eq_nil_iff.mp h
  obtain ⟨c, c1, c2, c3⟩ := Bg.name_path h0 h1
  rw [e] at c1
  cases c1
  have : Bg.has (Bg.start scales.length) = false := rfl
  rw [this] at c2
  cases c2
theorem nm_len (n : Int) : (nmL ones tens hun scales n).length ≤ 5 * (scales.length + 1) + 1 := by
  unfold nmL Bg.nameW
  rw [List.length_map]
  split
  · show 1 ≤ _
    omega
  · have := Bg.accW_len n (scales.length + 1) (scales.length + 1)
    rw [Bg.accW_all] at this
    omega
/-- the text of a name is not too long to be joined -/
theorem nm_join (good : GoodRow (ones ++ (tens ++ hun :: scales))) (l3 : scales.length ≤ 90) (n : Int) : ((nmL ones tens hun scales n).map (·.length)).sum + (nmL ones tens hun scales n).length * (" " : Str).length ≤ 16777216 := by
  have l := nm_len (ones := ones) (tens := tens) (hun := hun) (scales := scales) n
  have s : ∀ l : List Str, (∀ x ∈ l, GoodWord x) → (l.map (·.length)).sum ≤ 20 * l.length := by
    intro l
    induction l with
    | nil => intro _; exact Nat.le_refl _
    | cons x l ih =>
      intro h
      rw [List.map_cons, List.sum_cons, List.length_cons]
      have a := (h x List.mem_cons_self).2.1
      have b := ih fun y hy => h y (List.mem_cons_of_mem _ hy)
      omega
  have q := s _ (nm_good good n)
  have e : (" " : Str).length = 1 := by decide +kernel
  rw [e]
  omega
end
def nameT (ones tens : List Str) (hun : Str) (scales : List Str) (n : Int) : Str := Txt.join " " (nmL ones tens hun scales n)
/-- the law's own text: what it does for each script -/
def spTrue (K : PySem.W.Frag) : Sp := fun vs H Q _ => ∃ (a : Addr) (ns : List Int), vs = [.ref a] ∧ SqL K H a (ns.map V.int) ∧ ns.length ≤ 63 ∧ ∀ H', Q (.bl true) H'
theorem Tab.of {H : Hp} {t : Addr} {ones tens : List Str} {hun : Str} {scales : List Str} {o te sc : Addr} (A : TabAt H t ones tens hun scales o te sc) (l1 : ones.length = 20) (l2 : tens.length = 8) (l3 : scales.length ≤ 90) (g : GoodRow (ones ++ (tens ++ hun :: scales))) :
    Tab H t ones tens hun scales o te sc := ⟨⟨A, l1, l2, l3, g.nd⟩, g⟩
section
variable {P : Program} {w : World} {K : PySem.W.Frag} {mg : Str → Option Value} {base : Heap}
theorem int_at {ns : List Int} {i : Nat} {y : V} (h : (ns.map V.int)[i]? = some y) : ∃ m, ns[i]? = some m ∧ y = .int m := by
  rw [List.getElem?_map] at h
  cases q : ns[i]? with
  | none =>
    rw [q] at h
    cases h
  | some m =>
    rw [q] at h
    exact ⟨m, rfl, (Option.some.inj h).symm⟩
end
end LB
set_option Elab.async false
set_option linter.all false
set_option maxRecDepth 100000
set_option maxHeartbeats 8000000
/-! How many numbers of a list come before a number: asked by halves. -/
namespace LB
open PySem L2 Wk
open Bg (Bg Wo)
/-- what the halves come to, and how many were asked -/
def spotF (b : Nat → Bool) : Nat → Nat → Nat → Nat × Nat
  | 0, lo, _ => (lo, 0)
  | n + 1, lo, hi => if lo < hi then (if b ((lo + hi) / 2) = true then ((spotF b n ((lo + hi) / 2 + 1) hi).1, (spotF b n ((lo + hi) / 2 + 1) hi).2 + 1) else ((spotF b n lo ((lo + hi) / 2)).1, (spotF b n lo ((lo + hi) / 2)).2 + 1)) else (lo, 0)
theorem spot_fuel {b : Nat → Bool} : ∀ (n m lo hi : Nat), hi - lo ≤ n → hi - lo ≤ m → spotF b n lo hi = spotF b m lo hi
  | 0, 0, _, _, _, _ => rfl
  | 0, m + 1, lo, hi, h1, h2 => by
    show (lo, 0) = _
    unfold spotF
    rw [if_neg (by omega)]
  | n + 1, 0, lo, hi, h1, h2 => by
    show _ = (lo, 0)
    unfold spotF
    rw [if_neg (by omega)]
  | n + 1, m + 1, lo, hi, h1, h2 => by
    unfold spotF
    by_cases c : lo < hi
    · rw [if_pos c, if_pos c]
      rw [spot_fuel n m ((lo + hi) / 2 + 1) hi (by omega) (by omega), spot_fuel n m lo ((lo + hi) / 2) (by omega) (by omega)]
    · rw [if_neg c, if_neg c]
/-- few are asked -/
theorem spot_few {b : Nat → Bool} : ∀ (k n lo hi : Nat), hi - lo < 2 ^ k → (spotF b n lo hi).2 ≤ k
  | k, 0, _, _, _ => Nat.zero_le _
  | k, n + 1, lo, hi, h => by
    unfold spotF
    by_cases c : lo < hi
    · rw [if_pos c]
      cases k with
      | zero =>
        have : (2 : Nat) ^ 0 = 1 := rfl
        omega
      | succ k =>
        have e : (2 : Nat) ^ (k + 1) = 2 ^ k * 2 := Nat.pow_succ 2 k
        split
        · have := spot_few (b := b) k n ((lo + hi) / 2 + 1) hi (by omega)
          show _ + 1 ≤ k + 1
          omega
        · have := spot_few (b := b) k n lo ((lo + hi) / 2) (by omega)
          show _ + 1 ≤ k + 1
          omega
    · rw [if_neg c]
      exact Nat.zero_le _
theorem spot_some {b : Nat → Bool} {n lo hi : Nat} (h : lo < hi) (hn : hi - lo ≤ n) : 0 < (spotF b n lo hi).2 := by
  cases n with
  | zero => omega
  | succ n =>
    unfold spotF
    rw [if_pos h]
    split <;> exact Nat.succ_pos _
/-- where the answers turn -/
theorem spot_turn {b : Nat → Bool} {t : Nat} : ∀ (n lo hi : Nat), hi - lo ≤ n → lo ≤ t → t ≤ hi → (∀ i, i < t → b i = true) → (∀ i, t ≤ i → i < hi → b i = false) → (spotF b n lo hi).1 = t
  | 0, lo, hi, h, h1, h2, _, _ => by
    show lo = t
    omega
  | n + 1, lo, hi, h, h1, h2, hT, hF => by
    unfold spotF
    by_cases c : lo < hi
    · rw [if_pos c]
      by_cases d : (lo + hi) / 2 < t
      · rw [if_pos (hT _ d)]
        exact spot_turn n ((lo + hi) / 2 + 1) hi (by omega) (by omega) h2 hT hF
      · rw [if_neg (by rw [hF _ (by omega) (by omega)]; exact Bool.false_ne_true)]
        exact spot_turn n lo ((lo + hi) / 2) (by omega) h1 (by omega) hT fun i a1 a2 => hF i a1 (by omega)
    · rw [if_neg c]
      show lo = t
      omega
theorem ltW_ltF : ∀ a b : List Str, ltW a b = ltL a b
  | [], [] => rfl
  | [], _ :: _ => rfl
  | _ :: _, [] => rfl
  | x :: a, y :: b => by
    rw [ltW_cons, ltW_ltF a b]
    show _ = if WkI.ltS x y = true then true else if x = y then ltL a b else false
    by_cases c : x.cps.toList < y.cps.toList
    · have e : WkI.ltS x y = true := decide_eq_true c
      rw [if_pos c, if_pos e]
    · have e : ¬ WkI.ltS x y = true := fun z => c (of_decide_eq_true z)
      rw [if_neg c, if_neg e]
def befF (ones tens : List Str) (hun : Str) (scales : List Str) (ns : List Int) (x : Int) (i : Nat) : Bool := ltL (nmL ones tens hun scales (ns.getD i 0)) (nmL ones tens hun scales x)
def spotN (ones tens : List Str) (hun : Str) (scales : List Str) (ns : List Int) (x : Int) : Nat × Nat := spotF (befF ones tens hun scales ns x) ns.length 0 ns.length
def spSpot (CH : Addr) : Sp := fun vs H Q _ => ∃ (a dx t o te sc l : Addr) (q : Int) (ones tens : List Str) (hun : Str) (scales : List Str) (x : Int) (ns : List Int), vs = [.ref a, .int x, .ref l] ∧ HidAt H a CH dx t q ∧ TabD H t ones tens hun scales o te sc ∧ fault ones tens hun scales = none ∧
  H l = some (.lst (ns.map V.int)) ∧ ns.length ≤ 100 ∧ 0 ≤ x ∧ x < Bg.W (scales.length + 1) ∧ (∀ n ∈ ns, 0 ≤ n ∧ n < Bg.W (scales.length + 1)) ∧
  ∀ H' : Hp, HidAt H' a CH dx t (q + ((spotN ones tens hun scales ns x).2 : Int)) → (∀ r u, H r = some u → r ≠ a → H' r = some u) → Q (.int ((spotN ones tens hun scales ns x).1 : Nat)) H'
theorem TabD.keepA {H G : Hp} {a t o te sc : Addr} {ones tens : List Str} {hun : Str} {scales : List Str} {C dx tt : Addr} {q : Int} (T : TabD H t ones tens hun scales o te sc) (ha : HidAt H a C dx tt q) (k : ∀ r u, H r = some u → r ≠ a → G r = some u) : TabD G t ones tens hun scales o te sc := by
  have ne : ∀ {r : Addr} {u : HO}, H r = some u → (∀ fs, u ≠ .ins C dx fs) → r ≠ a := fun {r u} e h z => by
    rw [z, ha] at e
    exact h _ (Option.some.inj e).symm
  exact ⟨⟨k _ _ T.at_.tup (ne T.at_.tup fun _ => by simp), k _ _ T.at_.lo (ne T.at_.lo fun _ => by simp), k _ _ T.at_.lt (ne T.at_.lt fun _ => by simp), k _ _ T.at_.ls (ne T.at_.ls fun _ => by simp)⟩, T.l1, T.l2, T.l3, T.tm⟩
section
variable {P : Program} {w : World} {K : PySem.W.Frag} {mg : Str → Option Value} {base : Heap} {CH C0 C1 fI fC fQ pQ fS pS : Addr} {dI dC dQ dS : FuncData} {g : List Value → List Value → List Value}
theorem scSpotP : FnScope ["hidden", "number", "numbers", "low", "high", "middle"] ["hidden", "number", "numbers"] (defScope sSpotP) := ⟨rfl, rfl, rfl, by decide +kernel, rfl, by decide +kernel, by decide +kernel⟩
theorem ok_spot {f : Addr} {fd : FuncData} (F : Fun K "_spot" "_spot" sSpotP f fd) (M : HidM P w K mg base CH C0 C1 fI fC fQ pQ fS pS dI dC dQ dS g) (mL : mg "len" = none) : FnOk P w K mg base CX0 7 f fd ["hidden", "number", "numbers"] (spSpot CH) := by
  refine F.ok scSpotP (fun vs H Q E h => ?_) (fun cdv A outer s H vs Q E hr h => ?_)
  · obtain ⟨a, dx, t, o, te, sc, l, q, ones, tens, hun, scales, x, ns, rfl, _⟩ := h
    rfl
  · obtain ⟨a, dx, t, o, te, sc, l, q, ones, tens, hun, scales, x, ns, rfl, ha, T, ff, hl, n100, x0, x1, nb, k⟩ := h
    refine ⟨_, pss_cons (ps_set (i := 3) scSpotP.nd rfl (.inl rfl) pe_int)
      (pss_cons (ps_set (i := 4) scSpotP.nd rfl (.inl rfl) (pe_callB call_len_seq (by rfl) mL PySem.boot_len (pa_cons (pv 2) pa_nil)))
      (pss_cons (ps_while PassesOwn.never (pt_cmpR op_lt (pv 3) (pv 4) (nomark _))
        (pss_cons (ps_set (i := 5) scSpotP.nd rfl (.inl rfl) (pe_op op_fdiv (pe_op op_add (pv 3) (pv 4)) pe_int))
        (pss_one (ps_if (pt_val (pe_methAt (pv 0) M.hc.cls M.mC M.comes hr M.bC (fun σ => passAt takes0 σ) (pa_cons (pe_ix ix_list (pv 2) (pv 5) (fun _ _ => rfl)) (pa_cons (pv 1) pa_nil))))
          (pss_one (ps_set (i := 3) scSpotP.nd rfl (.inl rfl) (pe_op op_add (pv 5) pe_int))) (pss_one (ps_set (i := 4) scSpotP.nd rfl (.inl rfl) (pv 5)))))))
      (pss_one (ps_ret (pv 3))))), ?_⟩
    obtain ⟨b, hb⟩ : ∃ b, b = befF ones tens hun scales ns x := ⟨_, rfl⟩
    refine ⟨_, rfl, l, _, rfl, .inl (SqL.of hl), ?_⟩
    rw [List.length_map]
    have k : ∀ H' : Hp, HidAt H' a CH dx t (q + ((spotF b ns.length 0 ns.length).2 : Int)) → (∀ r u, H r = some u → r ≠ a → H' r = some u) → Q (.int ((spotF b ns.length 0 ns.length).1 : Nat)) H' := by
      rw [hb]
      exact k
    have la : l ≠ a := fun z => by
      rw [z] at hl
      have := hl.symm.trans ha
      cases this
    refine while_by (fun σ G => ∃ (lo hi : Nat) (c : Nat) (y : Option V), σ = [some (.ref a), some (.int x), some (.ref l), some (.int (lo : Int)), some (.int (hi : Int)), y] ∧ hi ≤ ns.length ∧ lo ≤ hi ∧ HidAt G a CH dx t (q + (c : Int)) ∧ (∀ r u, H r = some u → r ≠ a → G r = some u) ∧
        (spotF b ns.length 0 ns.length).1 = (spotF b ns.length lo hi).1 ∧ (spotF b ns.length 0 ns.length).2 = c + (spotF b ns.length lo hi).2)
      (fun σ _ => match σ with | [_, _, _, some (.int lo), some (.int hi), _] => (hi - lo).toNat | _ => 0) ⟨0, ns.length, 0, none, rfl, Nat.le_refl _, Nat.zero_le _, by rw [show q + ((0 : Nat) : Int) = q by omega]; exact ha, fun r u e _ => e, rfl, by omega⟩ ?_ ?_
    · rintro σ G ⟨lo, hi, c, y, rfl, hn, lh, hG, keep, e1, e2⟩
      refine ⟨_, rfl, _, rfl, _, _, rfl, rfl, _, rfl, ite2 (fun z => ?_) (fun z => ?_)⟩
      · have lt : lo < hi := by
          have := of_decide_eq_true z
          omega
        obtain ⟨mid, hmid⟩ : ∃ m : Nat, m = (lo + hi) / 2 := ⟨_, rfl⟩
        have em : ((lo : Int) + (hi : Int)) / 2 = (mid : Int) := by omega
        refine ⟨_, rfl, _, rfl, _, _, rfl, rfl, _, _, rfl, rfl, ⟨by decide, by decide⟩, ?_⟩
        rw [show (fun i j : Int => V.int (i / j)) ((lo : Int) + (hi : Int)) 2 = V.int (mid : Int) from congrArg V.int em]
        have mn : mid < ns.length := by omega
        have at_ : atI (ns.map V.int) (mid : Int) = some (.int (ns.getD mid 0)) := atI_nat (by
          rw [List.getElem?_map, List.getElem?_eq_getElem mn, List.getD_eq_getElem?_getD, List.getElem?_eq_getElem mn]
          rfl)
        obtain ⟨m0, m1⟩ := nb (ns.getD mid 0) (by
          rw [List.getD_eq_getElem?_getD, List.getElem?_eq_getElem mn]
          exact List.getElem_mem mn)
        have TG := T.keepA ha keep
        have hlG := keep _ _ hl la
        refine ⟨_, rfl, a, dx, _, rfl, hG, rfl, _, rfl, _, rfl, l, _, _, _, rfl, rfl, SqL.of hlG, at_, _, rfl, a, dx, t, o, te, sc, _, ones, tens, hun, scales, ns.getD mid 0, x, rfl, hG, TG, ff, fun n => absurd ⟨m0, m1⟩ n, fun _ _ n => absurd ⟨x0, x1⟩ n, fun _ _ _ _ G3 h3 k3 => ?_⟩
        have keep3 : ∀ r u, H r = some u → r ≠ a → G3 r = some u := fun r u e n => k3 _ _ (keep _ _ e n) n
        have eb : ltW (nmD ones tens hun scales (ns.getD mid 0)) (nmD ones tens hun scales x) = b mid := by
          rw [hb, ltW_ltF]
          rfl
        rw [eb]
        have fs : spotF b ns.length lo hi = if b mid = true then ((spotF b ns.length (mid + 1) hi).1, (spotF b ns.length (mid + 1) hi).2 + 1) else ((spotF b ns.length lo mid).1, (spotF b ns.length lo mid).2 + 1) := by
          obtain ⟨n, hnn⟩ : ∃ n, ns.length = n + 1 := ⟨ns.length - 1, by omega⟩
          rw [hnn]
          conv => lhs; unfold spotF
          rw [if_pos lt, ← hmid]
          rw [spot_fuel n (n + 1) (mid + 1) hi (by omega) (by omega), spot_fuel n (n + 1) lo mid (by omega) (by omega)]
        refine ⟨_, rfl, ite2 (fun cT => ?_) (fun cF => ?_)⟩
        · rw [if_pos cT] at fs
          rw [fs] at e1 e2
          refine ⟨_, rfl, _, _, rfl, rfl, ⟨mid + 1, hi, c + 1, some (.int (mid : Int)), ?_, hn, by omega, ?_, keep3, e1, ?_⟩, ?_⟩
          · show [some (V.ref a), some (V.int x), some (V.ref l), some (V.int ((mid : Int) + 1)), some (V.int (hi : Int)), some (V.int (mid : Int))] = _
            rw [show ((mid : Int) + 1) = ((mid + 1 : Nat) : Int) by omega]
          · rw [show q + ((c + 1 : Nat) : Int) = q + (c : Int) + 1 by omega]
            exact h3
          · have : (spotF b ns.length 0 ns.length).2 = c + ((spotF b ns.length (mid + 1) hi).2 + 1) := e2
            omega
          · show ((hi : Int) - ((mid : Int) + 1)).toNat < ((hi : Int) - (lo : Int)).toNat
            omega
        · rw [if_neg cF] at fs
          rw [fs] at e1 e2
          refine ⟨_, rfl, ⟨lo, mid, c + 1, _, rfl, by omega, by omega, ?_, keep3, e1, ?_⟩, ?_⟩
          · rw [show q + ((c + 1 : Nat) : Int) = q + (c : Int) + 1 by omega]
            exact h3
          · have : (spotF b ns.length 0 ns.length).2 = c + ((spotF b ns.length lo mid).2 + 1) := e2
            omega
          · show ((mid : Int) - (lo : Int)).toNat < ((hi : Int) - (lo : Int)).toNat
            omega
      · have ge : ¬ lo < hi := fun h => z (decide_eq_true (by omega))
        have fs : spotF b ns.length lo hi = (lo, 0) := by
          cases hn : ns.length with
          | zero => rfl
          | succ n =>
            unfold spotF
            rw [if_neg ge]
        rw [fs] at e1 e2
        have kz := k G (by rw [e2]; exact hG) keep
        rw [e1] at kz
        exact ⟨_, rfl, kz⟩
    · rintro σ G Q1 Q2 m ⟨x1, h1, x2, h2, i, j, hi, hj, y, hy, q⟩
      exact ⟨x1, h1, x2, h2, i, j, hi, hj, y, hy, m _ _ q⟩
end
end LB
set_option Elab.async false
set_option linter.all false
set_option maxRecDepth 100000
set_option maxHeartbeats 4000000
/-! list(range(a, b)) also of numbers beyond the small ones. -/
namespace Wk
open PySem PySem.Spec PyProof.Rows L2
section
variable {prog : Program} {w : World} {A : Around} {E : Value → Shared → Prop} {s : Shared}
/-- a list that stands empty takes all that a long range hands out -/
theorem fill_long {R : Result → Shared → Prop} {r : Addr} {a b c : Int} {t u v : Tok} {n : Nat} (calm : A.handled = none) (isR : IsRange s.heap r a b c t u v) (big : Builtin.Range.small a b c = false)
    (size : Builtin.Range.rangeSize a b c = n) (most : n ≤ 2 ^ 24) (L : Addr) (out : Value) (cap : Nat) (at_ : s.heap.get? L = some { cls := .type "list", data := .seq #[] cap })
    (k : ∀ h' tk acc cp, (∀ q o, q ≠ L → s.heap.get? q = some o → h'.get? q = some o) → h'.get? L = some { cls := .type "list", dict := none, data := .seq acc cp, slots := #[] } →
      ItemsOf (fun i v => ∃ t, v = .int (a + i * c) t) acc n → R (.ok (.ret out)) { s with heap := h', toks := tk }) :
    wpAny (model prog w) A.in1 (Builtin.List.listExtendWith (.ref L) (.ref r) out)
      (fun fin s' => match fin with | .done f => R (.ok f) s' | .again c' => c'.quiet = true ∧ codeAny (model prog w) A c' R s') (fun e s' => R (.error e) s') s := by
  have Lr : L ≠ r := fun e => by
    rw [e, isR] at at_
    simp at at_
  have Lnew : L ≠ s.heap.objs.size := Nat.ne_of_lt (Heap.lt_size at_)
  have off : L ∉ [s.heap.objs.size] := fun m => Lnew (List.mem_singleton.mp m)
  have walk := (Walks.longrange (prog := prog) (w := w) (A := A.in1) calm s.heap.objs.size a c n).toS
  have loop : ∀ (h : Heap) (c₁ tk : Nat), IsLongIter h s.heap.objs.size (a + ((0 : Nat) : Int) * c) ((n : Int) - ((0 : Nat) : Int)) c → (∀ q o, q ≠ L → s.heap.get? q = some o → h.get? q = some o) →
      h.get? L = some { cls := .type "list", data := .seq #[] c₁ } → codeAny (model prog w) A (.builtin "list.extend.loop" ⟨[.ref L, .ref s.heap.objs.size, out], []⟩) R { s with heap := h, toks := tk } := by
    intro h c₁ tk it keep here
    refine codeAny_extend_loopS walk (by rw [sizeLine_eq]; omega) L off out n 0 _ #[] c₁ rfl (Nat.zero_le _) it here (ItemsOf.nil _) fun s' acc cp moved here' items => ?_
    rw [Moved.eq_with moved]
    refine k s'.heap s'.toks acc cp (fun q o hq e => moved.heap q o (fun m => ?_) (keep q o hq e)) here' items
    rcases List.mem_cons.mp m with e' | m
    · exact hq e'
    · exact absurd (Heap.lt_size e) (by rw [List.mem_singleton.mp m]; exact Nat.lt_irrefl _)
  unfold Builtin.List.listExtendWith
  refine wpAny_bind (wpAny_typeOf (T := "range") ⟨_, isR, rfl⟩ ?_)
  have n1 : Builtin.List.listSameRef (.ref L) (.ref r) = false := by simp [Builtin.List.listSameRef, Lr]
  have n2 : (Value.type "range" == Value.type "list") = false := by decide
  have n3 : (Value.type "range" == Value.type "tuple") = false := by decide
  simp only [n1, n2, n3, Bool.or_false, Bool.false_eq_true, if_false]
  refine wpAny_bind (wpAny_pyIter_longrange isR big ?_)
  refine wpAny_bind (wpAny_holding (wpAny_hint_range (n := n) (Heap.get?_push_of_some _ isR) size most ?_))
  have it1 : IsLongIter (s.heap.push { cls := .type "longrange_iterator", data := .fields #[rawInt a, rawInt (Builtin.Range.rangeSize a b c), rawInt c] }) s.heap.objs.size (a + ((0 : Nat) : Int) * c) ((n : Int) - ((0 : Nat) : Int)) c := by
    show IsLongIter _ _ _ _ _
    rw [size]
    simpa using Heap.get?_push_size _ rfl
  have here1 := Heap.get?_push_of_some { cls := .type "longrange_iterator", data := .fields #[rawInt a, rawInt (Builtin.Range.rangeSize a b c), rawInt c] } at_
  refine wpAny_ite_split (fun _ => ?_) (fun _ => wpAny_pure ⟨plainId_quiet F.plain_extend_loop _, loop _ cap _ it1 (fun q o _ e => Heap.get?_push_of_some _ e) here1⟩)
  refine wpAny_bind (wpAny_rule ?_)
  refine wpAny_bind ?_
  show wpAny _ _ (updateSeq L (·.push .none) >>= fun _ => updateSeq L (·.pop)) _ _ _
  refine wpAny_bind (wpAny_updateSeq here1 rfl ?_)
  have here2 := Heap.get?_update_self (Obj.mapSeq (·.push Value.none)) here1 rfl
  refine wpAny_updateSeq (hz := by seq_fits) here2 rfl ?_
  have here3 := Heap.get?_update_self (Obj.mapSeq (·.pop)) here2 rfl
  refine wpAny_pure ⟨plainId_quiet F.plain_extend_loop _, loop _ _ _ ?_ (fun q o hq e => ?_) here3⟩
  · exact (Heap.get?_update_other _ _ Lnew).trans ((Heap.get?_update_other _ _ Lnew).trans it1)
  · exact (Heap.get?_update_other _ _ (Ne.symm hq)).trans ((Heap.get?_update_other _ _ (Ne.symm hq)).trans (Heap.get?_push_of_some _ e))
theorem init_long {R : Result → Shared → Prop} {r : Addr} {a b c : Int} {t u v : Tok} {n : Nat} (calm : A.handled = none) (isR : IsRange s.heap r a b c t u v) (big : Builtin.Range.small a b c = false)
    (size : Builtin.Range.rangeSize a b c = n) (most : n ≤ 2 ^ 24) (L : Addr) (at_ : s.heap.get? L = some { cls := .type "list", data := .seq #[] })
    (k : ∀ h' tk acc cp, (∀ q o, q ≠ L → s.heap.get? q = some o → h'.get? q = some o) → h'.get? L = some { cls := .type "list", dict := none, data := .seq acc cp, slots := #[] } →
      ItemsOf (fun i v => ∃ t, v = .int (a + i * c) t) acc n → R (.ok (.ret .none)) { s with heap := h', toks := tk }) :
    wpAny (model prog w) A.in1 (Builtin.«list.__init__» ⟨[.ref L, .ref r], []⟩)
      (fun fin s' => match fin with | .done f => R (.ok f) s' | .again c' => c'.quiet = true ∧ codeAny (model prog w) A c' R s') (fun e s' => R (.error e) s') s := by
  have Lr : L ≠ r := fun e => by
    rw [e, isR] at at_
    simp at at_
  show wpAny _ _ (do let old ← Builtin.List.listItems (.ref L); Builtin.List.listUpdate (.ref L) (fun _ => #[]); letGo old.toList.reverse; Builtin.List.listExtendWith (.ref L) (.ref r) .none) _ _ s
  refine wpAny_bind ?_
  unfold Builtin.List.listItems
  refine wpAny_bind (wpAny_seqItems at_ rfl (wpAny_pure ?_))
  show wpAny _ _ (updateSeq L (fun _ => #[]) >>= fun _ => letGo (#[] : Array Value).toList.reverse >>= fun _ => Builtin.List.listExtendWith (.ref L) (.ref r) .none) _ _ s
  refine wpAny_bind (wpAny_updateSeq at_ rfl ?_)
  have here2 := Heap.get?_update_self (Obj.mapSeq (fun _ => (#[] : Array Value))) at_ rfl
  have others : ∀ q o, q ≠ L → s.heap.get? q = some o → (s.heap.update L (Obj.mapSeq (fun _ => (#[] : Array Value)))).get? q = some o := fun q o hq e => (Heap.get?_update_other _ _ (Ne.symm hq)).trans e
  refine wpAny_bind (wpAny_letGo ?_)
  exact fill_long calm (others r _ (Ne.symm Lr) isR) big size most L .none _ here2 fun h' tk acc cp keep here items => k h' tk acc cp (fun q o hq e => keep q o hq (others q o hq e)) here items
theorem list_long {Q : Value → Shared → Prop} {r : Addr} {a b c : Int} {t u v : Tok} {n : Nat} (calm : A.handled = none) (isR : IsRange s.heap r a b c t u v) (big : Builtin.Range.small a b c = false)
    (size : Builtin.Range.rangeSize a b c = n) (most : n ≤ 2 ^ 24)
    (k : ∀ h' tk acc cp, (∀ q o, s.heap.get? q = some o → h'.get? q = some o) → h'.get? s.heap.objs.size = some { cls := .type "list", dict := none, data := .seq acc cp, slots := #[] } →
      ItemsOf (fun i v => ∃ t, v = .int (a + i * c) t) acc n → Q (.ref s.heap.objs.size) { s with heap := h', toks := tk }) :
    wpAny (model prog w) A (call (.type "list") [.ref r]) Q E s := by
  refine callType_codes (Q₁ := fun obj s₁ => obj = .ref s.heap.objs.size ∧ s₁ = { s with heap := s.heap.push { cls := .type "list", data := .seq #[] } }) F.called_list (F.typeCall_list_1 _) F.entry_list_init
    (code_list_new _ ⟨rfl, rfl⟩) fun obj s₁ h₁ => ?_
  obtain ⟨rfl, rfl⟩ := h₁
  have here : (s.heap.push { cls := .type "list", data := .seq #[] }).get? s.heap.objs.size = some { cls := .type "list", data := .seq #[] } := Heap.get?_push_size _ rfl
  refine ⟨⟨_, here, rfl⟩, F.args_list_init_2 _ _, init_long (A := A.in1) calm (Heap.get?_push_of_some _ isR) big size most _ here fun h' tk acc cp keep h2 items => ?_⟩
  exact ⟨rfl, k h' tk acc cp (fun q o e => keep q o (Nat.ne_of_lt (Heap.lt_size e)) (Heap.get?_push_of_some _ e)) h2 items⟩
end
section
variable {X : Cx} {e : Expr} {te : L2.St → Hp → (Int → Int → Hp → Prop) → Prop}
def tLstRgW (te : L2.St → Hp → (Int → Int → Hp → Prop) → Prop) : TE := fun σ H Q => te σ H fun a b H1 => (b - a).toNat ≤ 2 ^ 24 ∧ ∀ q, H1 q = none → Q (.ref q) (upd H1 q (.lst (rgV a b)))
theorem pe_listRgW {p pos : Pos} (hc : X.calm = true) (hg : Gl X "list") (hm : X.mg "list" = none) (he : PRg X e te) (na : starEach [e] X.env = (false, eval e X.env) :: starEach [] X.env := by rfl) : PE X (.Call (.Name "list" p) [e] [] pos) (tLstRgW te) := by
  refine ⟨fun pins s σ H Q I h => ?_⟩
  refine Call_ (ld_blt I hg hm boot_list (PyProof.Rows.callWith_type1 (args_cons (thn (he pins s σ H _ I h) fun x s1 ⟨r, a, b, t, u, v, H1, ex, hr, I1, ok, q⟩ => args_nil ?_) na) na))
  subst ex
  have fin : ∀ h' tk acc cp, (∀ q o, s1.heap.get? q = some o → h'.get? q = some o) → h'.get? s1.heap.objs.size = some { cls := .type "list", dict := none, data := .seq acc cp, slots := #[] } →
      ItemsOf (fun i v => ∃ t, v = .int (a + i * 1) t) acc (b - a).toNat → EP X pins σ Q (.ref s1.heap.objs.size) { s1 with heap := h', toks := tk } := fun h' tk acc c' hk e' hi => by
    refine ⟨.ref s1.heap.objs.size, upd H1 s1.heap.objs.size (.lst (rgV a b)), I1.laid hk (Nat.le_refl _) (show ObjOk X.prog X.w _ _ _ (.lst (rgV a b)) from ⟨?_, acc.toList, c', vals_rg hi, ?_⟩), rfl, q _ (I1.hok.fresh (Nat.le_refl _))⟩
    · rw [rgV_length, sizeLine_eq]; omega
    · rw [Array.toArray_toList]; exact e'
  cases z : Builtin.Range.small a b 1 with
  | true => exact call_list_range (n := (b - a).toNat) (I1.ok.hd hc) hr z (rangeSize_nat a b) ok fin
  | false => exact list_long (n := (b - a).toNat) (I1.ok.hd hc) hr z (rangeSize_nat a b) ok fin
end
end Wk
set_option Elab.async false
set_option linter.all false
set_option maxRecDepth 100000
set_option maxHeartbeats 4000000
/-! list(range(a, b, c)). -/
namespace Wk
open PySem PySem.Spec PyProof.Rows L2
/-- steps upwards between small bounds -/
theorem step_up {i j c : Int} (i0 : 0 ≤ i) (i1 : i ≤ 1000000) (j0 : 0 ≤ j) (j1 : j ≤ 1000000) (c0 : 1 ≤ c) (c1 : c ≤ 1000000) : ∃ n : Nat, RgC i j c n ∧ n ≤ 1000000 ∧ ∀ m : Nat, m < n → i + (m : Int) * c < j := by
  have size : Builtin.Range.rangeSize i j c = if i < j then (j - i - 1) / c + 1 else 0 := by
    unfold Builtin.Range.rangeSize
    rw [if_pos (show c > 0 by omega)]
  by_cases z : i < j
  · rw [if_pos z] at size
    have q0 : 0 ≤ (j - i - 1) / c := Int.ediv_nonneg (by omega) (by omega)
    have q1 : c * ((j - i - 1) / c) ≤ j - i - 1 := Int.mul_ediv_self_le (by omega)
    have q2 : (j - i - 1) / c ≤ j - i - 1 := Int.ediv_le_self _ (by omega)
    generalize (j - i - 1) / c = q at size q0 q1 q2
    refine ⟨(q + 1).toNat, ⟨by omega, by omega, ?_, by rw [size]; omega⟩, by omega, fun m hm => ?_⟩
    · unfold Builtin.Range.small
      rw [size]
      simp only [Builtin.Range.rangeFitsLong, Bool.and_eq_true, Bool.or_eq_true, decide_eq_true_eq, beq_iff_eq, if_pos (show c > 0 by omega)]
      omega
    · have a : (m : Int) * c ≤ q * c := Int.mul_le_mul_of_nonneg_right (by omega) (by omega)
      rw [Int.mul_comm q c] at a
      omega
  · rw [if_neg z] at size
    refine ⟨0, ⟨by omega, by omega, ?_, by rw [size]; rfl⟩, by omega, fun m hm => absurd hm (Nat.not_lt_zero _)⟩
    unfold Builtin.Range.small
    rw [size]
    simp only [Builtin.Range.rangeFitsLong, Bool.and_eq_true, Bool.or_eq_true, decide_eq_true_eq, beq_iff_eq, if_pos (show c > 0 by omega)]
    omega
def rgVC (a c : Int) (n : Nat) : List V := ((List.range n).map fun i : Nat => a + (i : Int) * c).map V.int
theorem rgVC_length (a c : Int) (n : Nat) : (rgVC a c n).length = n := by
  unfold rgVC
  rw [List.length_map, List.length_map, List.length_range]
section
variable {X : Cx}
def tLstRg3 (ta : TA) : TE := fun σ H Q => ta σ H fun vs H1 => ∃ (i j c : Int) (n : Nat), vs = [.int i, .int j, .int c] ∧ RgC i j c n ∧ n ≤ 2 ^ 24 ∧ ∀ q, H1 q = none → Q (.ref q) (upd H1 q (.lst (rgVC i c n)))
theorem pe_listRg3 {a b c : Expr} {ta : TA} {p1 pos1 p pos : Pos} (hc : X.calm = true) (hg : Gl X "list") (hm : X.mg "list" = none) (rg : Gl X "range") (rm : X.mg "range" = none) (ha : PA X [a, b, c] ta)
    (hs : starEach [a, b, c] X.env = (false, eval a X.env) :: starEach [b, c] X.env := by rfl) (hpl : (backTo pos1 (starEach [b, c] X.env)).any (·.1) = false := by rfl)
    (na : starEach [Expr.Call (.Name "range" p1) [a, b, c] [] pos1] X.env = (false, eval (Expr.Call (.Name "range" p1) [a, b, c] [] pos1) X.env) :: starEach [] X.env := by rfl) :
    PE X (.Call (.Name "list" p) [.Call (.Name "range" p1) [a, b, c] [] pos1] [] pos) (tLstRg3 ta) := by
  refine ⟨fun pins s σ H Q I h => ?_⟩
  have rng : wpAny (model X.prog X.w) X.A (eval (.Call (.Name "range" p1) [a, b, c] [] pos1) X.env) (fun x s' => ∃ (r : Addr) (i j c : Int) (n : Nat) (t u v : Tok) (H' : Hp), x = .ref r ∧ IsRange s'.heap r i j c t u v ∧ Inv X pins σ H' s' ∧ RgC i j c n ∧ n ≤ 2 ^ 24 ∧
      ∀ q, H' q = none → Q (.ref q) (upd H' q (.lst (rgVC i c n)))) X.xe s := by
    refine Call_ (ld_blt I rg rm boot_range (PyProof.Rows.callWith_type1 (thn (ha.run pos1 pins s σ H _ I h) fun us s1 ⟨vs, H1, I1, r1, q1⟩ => ?_) hs hpl))
    obtain ⟨i, j, k, n, e, ok, n24, q⟩ := q1
    subst e
    cases r1 with
    | cons r rr =>
      cases rr with
      | cons r' rr =>
        cases rr with
        | cons r'' rr =>
          cases rr
          obtain ⟨t, rfl⟩ := r
          obtain ⟨t', rfl⟩ := r'
          obtain ⟨t'', rfl⟩ := r''
          refine call_range_3 ok.1 ?_ (.inl (PyProof.noPylong_small ok.2.1))
          exact ⟨_, i, j, k, n, _, _, _, H1, rfl, IsRange.new .., I1.kept (t' := s1.toks) fun b o e => Heap.get?_push_of_some _ e, ok, n24, q⟩
  refine Call_ (ld_blt I hg hm boot_list (PyProof.Rows.callWith_type1 (args_cons (thn rng fun x s1 ⟨r, i, j, k, n, t, u, v, H1, ex, hr, I1, ok, n24, q⟩ => args_nil ?_) na) na))
  subst ex
  refine call_list_range (n := n) (I1.ok.hd hc) hr ok.2.2.1 ok.2.2.2 n24 fun h' tk acc c' hk e' hi => ?_
  refine ⟨.ref s1.heap.objs.size, upd H1 s1.heap.objs.size (.lst (rgVC i k n)), I1.laid hk (Nat.le_refl _) (show ObjOk X.prog X.w _ _ _ (.lst (rgVC i k n)) from ⟨?_, acc.toList, c', ?_, ?_⟩), rfl, q _ (I1.hok.fresh (Nat.le_refl _))⟩
  · rw [rgVC_length, sizeLine_eq]
    omega
  · have e : acc.toList.length = n := by rw [Array.length_toList]; exact hi.1
    unfold rgVC
    rw [List.map_map, ← e]
    refine vals_of_get acc.toList _ fun m u hm => ?_
    obtain ⟨t, rfl⟩ := hi.2 m u (by rw [← hm, Array.getElem?_toList])
    exact ⟨t, rfl⟩
  · rw [Array.toArray_toList]
    exact e'
end
end Wk
set_option Elab.async false
set_option linter.all false
set_option maxRecDepth 100000
set_option maxHeartbeats 8000000
/-! The program's own find, as a function of the table. -/
namespace LB
open PySem L2 Wk
open Bg (Bg Wo)
def bhF (n : Int) : Int := if n < 100 then 100 + n else 100 * n
/-- the numbers with words of their own, but for 0 and 100 -/
def numF (k : Nat) : List Int := (((List.range 19).map fun i : Nat => (1 : Int) + (i : Int)) ++ ((List.range 8).map fun i : Nat => (20 : Int) + (i : Int) * 10)) ++ (List.range k).map fun i => Bg.W (i + 1)
def insF (i : Nat) (x : Int) (l : List Int) : List Int := l.take i ++ [x] ++ l.drop i
section
variable (ones tens : List Str) (hun : Str) (scales : List Str)
/-- one number more -/
def stepF (s : List Int × Nat) (n : Int) : List Int × Nat := (insF (spotN ones tens hun scales (s.1.map bhF) (bhF n)).1 n s.1, s.2 + (spotN ones tens hun scales (s.1.map bhF) (bhF n)).2)
def ordF (l : List Int) : List Int × Nat := l.foldl (stepF ones tens hun scales) ([], 0)
def hunF (o : List Int) : Nat × Nat := spotN ones tens hun scales (o.filter fun n => decide (1000 ≤ n)) 100
def plainF (o : List Int) : List Int := o.filter fun n => decide (n < 100)
def zerF (o : List Int) : Nat × Nat := spotN ones tens hun scales (plainF o) 0
def placeF (o : List Int) : Nat := if (zerF ones tens hun scales o).1 < (plainF o).length then o.idxOf ((plainF o).getD (zerF ones tens hun scales o).1 0) else o.length
def outF : List Int := insF (placeF ones tens hun scales (ordF ones tens hun scales (numF scales.length)).1) 0 (ordF ones tens hun scales (numF scales.length)).1
def hunsF : Nat := (hunF ones tens hun scales (ordF ones tens hun scales (numF scales.length)).1).1
def askF : Nat := (ordF ones tens hun scales (numF scales.length)).2 + (hunF ones tens hun scales (ordF ones tens hun scales (numF scales.length)).1).2 + (zerF ones tens hun scales (ordF ones tens hun scales (numF scales.length)).1).2
end
theorem ordF_snoc (ones tens : List Str) (hun : Str) (scales : List Str) (l : List Int) (n : Int) : ordF ones tens hun scales (l ++ [n]) = stepF ones tens hun scales (ordF ones tens hun scales l) n := by
  unfold ordF
  rw [List.foldl_append]
  rfl
theorem ins_perm (i : Nat) (x : Int) (l : List Int) : (insF i x l).Perm (x :: l) := by
  unfold insF
  rw [List.append_assoc]
  have h : (l.take i ++ (x :: l.drop i)).Perm (x :: (l.take i ++ l.drop i)) := List.perm_middle
  rw [List.take_append_drop] at h
  exact h
theorem ord_perm (ones tens : List Str) (hun : Str) (scales : List Str) : ∀ l : List Int, (ordF ones tens hun scales l).1.Perm l := by
  intro l
  have key : ∀ (l : List Int) (s : List Int × Nat), (l.foldl (stepF ones tens hun scales) s).1.Perm (l ++ s.1) := by
    intro l
    induction l with
    | nil =>
      intro s
      exact List.Perm.refl _
    | cons n l ih =>
      intro s
      rw [List.foldl_cons]
      refine (ih _).trans ?_
      have h := ins_perm (spotN ones tens hun scales (s.1.map bhF) (bhF n)).1 n s.1
      exact (h.append_left l).trans List.perm_middle
  have := key l ([], 0)
  rw [List.append_nil] at this
  exact this
theorem numF_len (k : Nat) : (numF k).length = 27 + k := by
  unfold numF
  rw [List.length_append, List.length_append, List.length_map, List.length_map, List.length_map, List.length_range, List.length_range, List.length_range]
theorem numF_bnd {k : Nat} {n : Int} (h : n ∈ numF k) : (1 ≤ n ∧ n < 100) ∨ ∃ i, i < k ∧ n = Bg.W (i + 1) := by
  rcases List.mem_append.mp h with h | h
  · rcases List.mem_append.mp h with h | h
    · obtain ⟨i, hi, rfl⟩ := List.mem_map.mp h
      have := List.mem_range.mp hi
      exact .inl (by omega)
    · obtain ⟨i, hi, rfl⟩ := List.mem_map.mp h
      have := List.mem_range.mp hi
      exact .inl (by omega)
  · obtain ⟨i, hi, rfl⟩ := List.mem_map.mp h
    exact .inr ⟨i, List.mem_range.mp hi, rfl⟩
theorem numF_in {k : Nat} {n : Int} (h : n ∈ numF k) : 0 < n ∧ n < Bg.W (k + 1) ∧ 0 ≤ bhF n ∧ bhF n < Bg.W (k + 1) := by
  have w0 := Bg.W_pos k
  have w1 := Bg.W_succ k
  rcases numF_bnd h with ⟨a, b⟩ | ⟨i, hi, rfl⟩
  · unfold bhF
    rw [if_pos b]
    omega
  · have wi := Bg.W_pos i
    have si := Bg.W_succ i
    have le : Bg.W (i + 1) ≤ Bg.W k := Bg.W_le (by omega)
    unfold bhF
    rw [if_neg (by omega)]
    omega
theorem spot_le {b : Nat → Bool} : ∀ (n lo hi : Nat), lo ≤ hi → (spotF b n lo hi).1 ≤ hi
  | 0, lo, hi, h => h
  | n + 1, lo, hi, h => by
    unfold spotF
    by_cases c : lo < hi
    · rw [if_pos c]
      split
      · exact spot_le n _ hi (by omega)
      · have := spot_le (b := b) n lo ((lo + hi) / 2) (by omega)
        show (spotF b n lo ((lo + hi) / 2)).1 ≤ hi
        omega
    · rw [if_neg c]
      exact h
def spBeh : Sp := fun vs H Q _ => ∃ n : Int, vs = [.int n] ∧ n.natAbs < 2 ^ 400 ∧ Q (.int (bhF n)) H
def spScN : Sp := fun vs H Q _ => ∃ k : Nat, vs = [.int (k : Int)] ∧ k ≤ 30 ∧ ∀ (l : Addr) (H' : Hp), H l = none → Same H H' → H' l = some (.lst (((List.range k).map fun i => Bg.W (i + 1)).map V.int)) → Q (.ref l) H'
def spFind (CH : Addr) : Sp := fun vs H Q _ => ∃ (a dx t o te sc : Addr) (q : Int) (ones tens : List Str) (hun : Str) (scales : List Str), vs = [.ref a] ∧ HidAt H a CH dx t q ∧ TabD H t ones tens hun scales o te sc ∧ fault ones tens hun scales = none ∧ scales.length ≤ 20 ∧
  ∀ (T L : Addr) (H' : Hp), H T = none → H L = none → T ≠ L → HidAt H' a CH dx t (q + ((askF ones tens hun scales : Nat) : Int)) → (∀ r u, H r = some u → r ≠ a → H' r = some u) → H' T = some (.tup [.ref L, .int ((hunsF ones tens hun scales : Nat) : Int)]) → H' L = some (.lst ((outF ones tens hun scales).map V.int)) → Q (.ref T) H'
section
variable {P : Program} {w : World} {K : PySem.W.Frag} {mg : Str → Option Value} {base : Heap} {CH C0 C1 fI fC fQ pQ fS pS : Addr} {dI dC dQ dS : FuncData} {g : List Value → List Value → List Value}
theorem scBeh : FnScope ["number"] ["number"] (defScope sBehind) := ⟨rfl, rfl, rfl, by decide +kernel, rfl, by decide +kernel, by decide +kernel⟩
theorem ok_beh {f : Addr} {fd : FuncData} (F : Fun K "_behind_hundred" "_behind_hundred" sBehind f fd) : FnOk P w K mg base CX0 1 f fd ["number"] spBeh := by
  refine F.ok scBeh (fun vs H Q E h => ?_) (fun cdv A outer s H vs Q E hr h => ?_)
  · obtain ⟨n, rfl, _⟩ := h
    rfl
  · obtain ⟨n, rfl, nb, k⟩ := h
    refine ⟨_, pss_one (ps_ret (pe_ifExp (pt_cmpR op_lt (pv 0) pe_int (nomark _)) (pe_op op_add pe_int (pv 0)) (pe_op op_mul pe_int (pv 0)))), ?_⟩
    unfold bhF at k
    refine ⟨_, rfl, _, _, rfl, rfl, _, rfl, ite2 (fun c => ?_) (fun c => ?_)⟩
    · rw [if_pos (of_decide_eq_true c)] at k
      exact ⟨_, rfl, _, _, rfl, rfl, k⟩
    · rw [if_neg (fun y => c (decide_eq_true y))] at k
      exact ⟨_, rfl, _, _, rfl, rfl, .inl ⟨by decide, by decide⟩, k⟩
theorem scScN : FnScope ["scales", "numbers", "worth", "_"] ["scales"] (defScope sScaleNums) := ⟨rfl, rfl, rfl, by decide +kernel, rfl, by decide +kernel, by decide +kernel⟩
theorem ok_scN {f : Addr} {fd : FuncData} (F : Fun K "_scale_numbers" "_scale_numbers" sScaleNums f fd) (mR : mg "range" = none) : FnOk P w K mg base CX0 1 f fd ["scales"] spScN := by
  refine F.ok scScN (fun vs H Q E h => ?_) (fun cdv A outer s H vs Q E hr h => ?_)
  · obtain ⟨n, rfl, _⟩ := h
    rfl
  · obtain ⟨k, rfl, k30, kk⟩ := h
    have big : 10000 ≤ sizeLine := by decide
    refine ⟨_, pss_cons (ps_set (i := 1) scScN.nd rfl (.inl rfl) (pe_lst pa_nil))
      (pss_cons (ps_set (i := 2) scScN.nd rfl (.inl rfl) pe_int)
      (pss_cons (ps_for PassesOwn.never rfl (pi_range1 rfl mR (pa_cons (pv 0) pa_nil)) (pg_name (i := 3) scScN.nd rfl (.inl rfl))
        (pss_cons (ps_set (i := 2) scScN.nd rfl (.inl rfl) (pe_op op_mul (pv 2) pe_int))
        (pss_one (ps_expr (pe_bm PySem.F.plainAttrs_list PySem.F.slot_list_append PySem.F.type_list_append mt_append (pv 1) (pa_cons (pv 2) pa_nil))))))
      (pss_one (ps_ret (pv 1))))), ?_⟩
    refine ⟨Nat.zero_le _, fun L nL => ?_⟩
    refine ⟨_, rfl, (k : Int), rfl, by omega, by omega, ?_⟩
    refine for_range (lo := 0) (n := ((k : Nat) : Int).toNat) (fun i τ G => ∃ x : Option V, τ = [some (.int (k : Int)), some (.ref L), some (.int (Bg.W i)), x] ∧ G L = some (.lst (((List.range i).map fun i => Bg.W (i + 1)).map V.int)) ∧ ∀ q o, H q = some o → G q = some o) ⟨none, rfl, upd_same, same_new nL⟩ ?_ ?_
    · rintro i τ G hi ⟨x, rfl, hL, keep⟩
      have ik : i < k := by omega
      refine ⟨_, rfl, _, _, rfl, rfl, .inr ⟨by decide, by decide⟩, _, rfl, .inl ⟨rfl, _, SqL.of hL⟩, _, rfl, L, _, _, rfl, rfl, hL, by rw [List.length_map, List.length_map, List.length_range]; omega, some (.int (0 + (i : Int))), ?_, ?_, fun q o e => ?_⟩
      · rw [Bg.W_succ, Int.mul_comm]
        rfl
      · have e : Bg.W i * 1000 = Bg.W (i + 1) := by rw [Bg.W_succ, Int.mul_comm]
        rw [upd_same, List.range_succ, List.map_append, List.map_append]
        show some (HO.lst (_ ++ [V.int (Bg.W i * 1000)])) = some (HO.lst (_ ++ [V.int (Bg.W (i + 1))]))
        rw [e]
      · rw [upd_ne (ne_of_none e nL)]
        exact keep _ _ e
    · rintro τ G ⟨x, rfl, hL, keep⟩
      rw [show ((k : Nat) : Int).toNat = k by omega] at hL
      exact ⟨_, rfl, kk L G nL keep hL⟩
theorem scFind : FnScope ["hidden", "order", "number", "spot", "hundreds", "plain", "other"] ["hidden"] (defScope sFind) := ⟨rfl, rfl, rfl, by decide +kernel, rfl, by decide +kernel, by decide +kernel⟩
theorem ok_find {f fB fN fP : Addr} {fd dB dN dP : FuncData} (F : Fun K "find" "find" sFind f fd) (M : HidM P w K mg base CH C0 C1 fI fC fQ pQ fS pS dI dC dQ dS g) (Bh : Def1 P w K mg base "_behind_hundred" 1 fB dB ["number"] spBeh) (SN : Def1 P w K mg base "_scale_numbers" 1 fN dN ["scales"] spScN)
    (Sp : Def1 P w K mg base "_spot" 7 fP dP ["hidden", "number", "numbers"] (spSpot CH)) (mL : mg "len" = none) (mR : mg "range" = none) (mLi : mg "list" = none) : FnOk P w K mg base CX0 8 f fd ["hidden"] (spFind CH) := by
  refine F.ok scFind (fun vs H Q E h => ?_) (fun cdv A outer s H vs Q E hr h => ?_)
  · obtain ⟨a, dx, t, o, te, sc, q, ones, tens, hun, scales, rfl, _⟩ := h
    rfl
  · obtain ⟨a, dx, t, o, te, sc, q, ones, tens, hun, scales, rfl, ha, T, ff, l20, k⟩ := h
    have hr1 : Room 1 _ := hr.mono (by decide)
    have hr2 : Room 2 _ := hr.mono (by decide)
    refine ⟨_, pss_cons (ps_set (i := 1) scFind.nd rfl (.inl rfl) (pe_lst pa_nil))
      (pss_mid (ps_for PassesOwn.never rfl (pi_list (pe_op op_cat (pe_op op_cat (pe_listRgW rfl (by rfl) mLi (prg_2 (by rfl) mR pe_int pe_int)) (pe_listRg3 rfl (by rfl) mLi (by rfl) mR (pa_cons pe_int (pa_cons pe_int (pa_cons pe_int pa_nil))))) (pe_call SN.ok hr1 (by rfl) SN.g SN.k SN.b .nil pass0 (pa_cons (pe_prop (dvs := []) (pv 0) M.hc.cls M.pS M.scal hr2 M.bS .nil pass0 rfl) pa_nil)))) (pg_name (i := 2) scFind.nd rfl (.inl rfl))
        (pss_mid (ps_set (i := 3) scFind.nd rfl (.inl rfl) (pe_call Sp.ok hr (by rfl) Sp.g Sp.k Sp.b .nil pass0 (pa_cons (pv 0) (pa_cons (pe_call Bh.ok hr1 (by rfl) Bh.g Bh.k Bh.b .nil pass0 (pa_cons (pv 2) pa_nil)) (pa_cons (pe_lc (own := [("other", 6)]) (g := gName 6) (by rfl) scFind.nd (pi_list (pv 1)) (blkOk_by (own := [("other", 6)]) (N := ["hidden", "order", "number", "spot", "hundreds", "plain", "other"]) (sc := defScope sFind) (by decide +kernel)) (fun _ _ _ _ _ => pg_name (i := 6) scFind.nd rfl (Or.inl rfl)) (fun _ _ _ _ _ => pts_nil) (fun _ _ _ _ _ => (pe_call Bh.ok hr1 (by rfl) Bh.g Bh.k Bh.b .nil pass0 (pa_cons (pv 6) pa_nil)))) pa_nil)))))
        (pss_one (ps_expr (pe_bm PySem.F.plainAttrs_list PySem.F.slot_list_insert PySem.F.type_list_insert mt_insert (pv 1) (pa_cons (pv 3) (pa_cons (pv 2) pa_nil)))))))
      (pss_mid (ps_set (i := 4) scFind.nd rfl (.inl rfl) (pe_call Sp.ok hr (by rfl) Sp.g Sp.k Sp.b .nil pass0 (pa_cons (pv 0) (pa_cons pe_int (pa_cons (pe_lc (own := [("number", 2)]) (g := gName 2) (by rfl) scFind.nd (pi_list (pv 1)) (blkOk_by (own := [("number", 2)]) (N := ["hidden", "order", "number", "spot", "hundreds", "plain", "other"]) (sc := defScope sFind) (by decide +kernel)) (fun _ _ _ _ _ => pg_name (i := 2) scFind.nd rfl (Or.inl rfl)) (fun _ _ _ _ _ => pts_one (pt_cmpR op_ge (pv 2) pe_int (nomark _))) (fun _ _ _ _ _ => pv 2)) pa_nil)))))
      (pss_mid (ps_setLc (i := 5) (own := [("number", 2)]) (g := gName 2) (by rfl) scFind.nd rfl rfl (sw_true rfl rfl rfl (by decide +kernel)) (pi_list (pv 1)) (blkOk_by (own := [("number", 2)]) (N := ["hidden", "order", "number", "spot", "hundreds", "plain", "other"]) (sc := defScope sFind) (by decide +kernel)) (fun _ _ _ _ _ => pg_name (i := 2) scFind.nd rfl (Or.inl rfl)) (fun _ _ _ _ _ => pts_one (pt_cmpR op_lt (pv 2) pe_int (nomark _))) (fun _ _ _ _ _ => pv 2))
      (pss_mid (ps_set (i := 3) scFind.nd rfl (.inl rfl) (pe_call Sp.ok hr (by rfl) Sp.g Sp.k Sp.b .nil pass0 (pa_cons (pv 0) (pa_cons pe_int (pa_cons (pv 5) pa_nil)))))
      (pss_mid (ps_expr (pe_bm PySem.F.plainAttrs_list PySem.F.slot_list_insert PySem.F.type_list_insert mt_insert (pv 1) (pa_cons (pe_ifExp (pt_cmpR op_lt (pv 3) (pe_callB call_len_seq (by rfl) mL PySem.boot_len (pa_cons (pv 5) pa_nil)) (nomark _)) (pe_bm PySem.F.plainAttrs_list PySem.F.slot_list_index PySem.F.type_list_index mt_index (pv 1) (pa_cons (pe_ix ix_list (pv 5) (pv 3) (fun _ _ => rfl)) pa_nil)) (pe_callB call_len_seq (by rfl) mL PySem.boot_len (pa_cons (pv 1) pa_nil))) (pa_cons pe_int pa_nil))))
      (pss_one (ps_ret (pe_tup (pa_cons (pv 1) (pa_cons (pv 4) pa_nil)))))))))), ?_⟩
    have big : 10000 ≤ sizeLine := by decide
    obtain ⟨l20', l8, _⟩ := fault_lens ff
    have Wbig := W_big (scales.length + 1) (by omega)
    have Wp := Bg.W_pos (scales.length + 1)
    have W1000 : 1000 ≤ Bg.W (scales.length + 1) := by
      have := Bg.W_pos scales.length
      rw [Bg.W_succ]
      omega
    obtain ⟨NF, hNF⟩ : ∃ l, l = numF scales.length := ⟨_, rfl⟩
    have nfin : ∀ n ∈ NF, 0 < n ∧ n < Bg.W (scales.length + 1) ∧ 0 ≤ bhF n ∧ bhF n < Bg.W (scales.length + 1) := fun n hn => numF_in (by rw [← hNF]; exact hn)
    have nflen : NF.length = 27 + scales.length := by rw [hNF, numF_len]
    refine ⟨Nat.zero_le _, fun ol nol => ?_⟩
    have s1 := same_new (x := .lst []) nol
    have olne : ol ≠ a := fun z => by
      rw [z] at nol
      have := nol.symm.trans ha
      cases this
    have hol1 : upd H ol (.lst []) ol = some (.lst []) := upd_same
    generalize upd H ol (.lst []) = H1 at s1 hol1
    -- the order
    refine ⟨fun τ G => ∃ (x2 x3 : Option V), τ = [some (.ref a), some (.ref ol), x2, x3, none, none, none] ∧ HidAt G a CH dx t (q + (((ordF ones tens hun scales NF).2 : Nat) : Int)) ∧ G ol = some (.lst ((ordF ones tens hun scales NF).1.map V.int)) ∧ (∀ r u, H r = some u → r ≠ a → G r = some u), ?_, ?_⟩
    · refine ⟨1, 20, rfl, rfl, by decide, fun q1 nq1 => ?_⟩
      have t1 := same_new (x := .lst (rgV 1 20)) nq1
      refine ⟨20, 100, 10, 8, rfl, ⟨by decide, by decide, by decide +kernel, by decide +kernel⟩, by decide, fun q2 nq2 => ?_⟩
      have t2 := t1.trans (same_new (x := .lst (rgVC 20 10 8)) nq2)
      refine ⟨q1, q2, _, _, rfl, rfl, (by rw [upd_ne (ne_of_none upd_same nq2)]; exact upd_same), upd_same, by rw [rgV_length, rgVC_length]; decide, fun q3 nq3 => ?_⟩
      have t3 := t2.trans (same_new (x := .lst (rgV 1 20 ++ rgVC 20 10 8)) nq3)
      have h3 : upd (upd (upd H1 q1 (.lst (rgV 1 20))) q2 (.lst (rgVC 20 10 8))) q3 (.lst (rgV 1 20 ++ rgVC 20 10 8)) q3 = some (.lst (rgV 1 20 ++ rgVC 20 10 8)) := upd_same
      generalize upd (upd (upd H1 q1 (.lst (rgV 1 20))) q2 (.lst (rgVC 20 10 8))) q3 (.lst (rgV 1 20 ++ rgVC 20 10 8)) = H3 at t3 h3
      have ha3 := t3 _ _ (s1 _ _ ha)
      have T3 := (T.same s1).same t3
      refine ⟨_, rfl, a, dx, _, rfl, ha3, a, dx, t, o, te, sc, q, ones, tens, hun, scales, rfl, ha3, T3.at_, scales.length, rfl, by omega, fun l4 H4 nl4 s4 hl4 => ?_⟩
      refine ⟨q3, l4, _, _, rfl, rfl, s4 _ _ h3, hl4, by rw [List.length_append, rgV_length, rgVC_length, List.length_map, List.length_map, List.length_range]; show 19 + 8 + _ ≤ sizeLine; omega, fun NL nNL => ?_⟩
      have exs : (rgV 1 20 ++ rgVC 20 10 8) ++ ((List.range scales.length).map fun i => Bg.W (i + 1)).map V.int = NF.map V.int := by
        rw [hNF]
        unfold numF
        rw [List.map_append, List.map_append]
        congr 2
      rw [exs]
      have s5 := s4.trans (same_new (x := .lst (NF.map V.int)) nNL)
      have hNL : upd H4 NL (.lst (NF.map V.int)) NL = some (.lst (NF.map V.int)) := upd_same
      have NLol : NL ≠ ol := fun z => by
        have := s4 _ _ (t3 _ _ hol1)
        rw [← z, nNL] at this
        cases this
      have NLa : NL ≠ a := fun z => by
        have := s4 _ _ ha3
        rw [← z, nNL] at this
        cases this
      generalize upd H4 NL (.lst (NF.map V.int)) = H5 at s5 hNL
      have hol5 := s5 _ _ (t3 _ _ hol1)
      have ha5 := s5 _ _ ha3
      refine ⟨NL, rfl, ⟨_, SqL.of hNL⟩, for_list (K := K) (a := NL) (xs := NF.map V.int) (fun i τ G => ∃ (x2 x3 : Option V), τ = [some (.ref a), some (.ref ol), x2, x3, none, none, none] ∧ HidAt G a CH dx t (q + (((ordF ones tens hun scales (NF.take i)).2 : Nat) : Int)) ∧ G ol = some (.lst ((ordF ones tens hun scales (NF.take i)).1.map V.int)) ∧ (∀ r u, H r = some u → r ≠ a → G r = some u) ∧ G NL = some (.lst (NF.map V.int)))
        ⟨none, none, rfl, by rw [show q + (((ordF ones tens hun scales (NF.take 0)).2 : Nat) : Int) = q from Int.add_zero q]; exact ha5, hol5, fun r u e _ => s5 _ _ (t3 _ _ (s1 _ _ e)), hNL⟩ (fun i τ G _ ⟨_, _, _, _, _, _, h⟩ => SqL.of h) ?_ ?_⟩
      · rintro i y τ G hi ⟨x2, x3, rfl, hG, hol, keep, hNLG⟩
        obtain ⟨n, hn, rfl⟩ := int_at hi
        have il := (List.getElem?_eq_some_iff.mp hn).1
        obtain ⟨n0, n1, b0, b1⟩ := nfin n (List.mem_of_getElem? hn)
        have pm := ord_perm ones tens hun scales (NF.take i)
        have ol_len : (ordF ones tens hun scales (NF.take i)).1.length = i := by
          rw [pm.length_eq, List.length_take]
          omega
        have mems : ∀ m ∈ (ordF ones tens hun scales (NF.take i)).1, m ∈ NF := fun m hm => List.mem_of_mem_take (pm.mem_iff.mp hm)
        have tk : NF.take (i + 1) = NF.take i ++ [n] := by
          rw [List.take_add_one, hn]
          rfl
        have nxt := ordF_snoc ones tens hun scales (NF.take i) n
        rw [← tk] at nxt
        obtain ⟨s, hs⟩ : ∃ s, s = ordF ones tens hun scales (NF.take i) := ⟨_, rfl⟩
        rw [← hs] at hG hol ol_len mems nxt
        -- spot
        refine ⟨fun τ G2 => τ = [some (.ref a), some (.ref ol), some (.int n), some (.int (((spotN ones tens hun scales (s.1.map bhF) (bhF n)).1 : Nat) : Int)), none, none, none] ∧ HidAt G2 a CH dx t (q + ((s.2 : Nat) : Int) + (((spotN ones tens hun scales (s.1.map bhF) (bhF n)).2 : Nat) : Int)) ∧ (∀ r u, G r = some u → r ≠ a → G2 r = some u), ?_, ?_⟩
        · refine ⟨_, rfl, _, rfl, n, rfl, by omega, ?_⟩
          refine ⟨_, rfl, ol, rfl, ⟨_, SqL.of hol⟩, fun D nD => lc_it (walk_list (K := K) (a := ol) (xs := s.1.map V.int)) (fun j G' => G' D = some (.lst (((s.1.take j).map bhF).map V.int)) ∧ Same G G') ⟨upd_same, same_new nD⟩ (fun j G' _ ⟨_, s⟩ => SqL.of (s _ _ hol)) ?_ ?_⟩
          · rintro j x G1 G2 hj ⟨hD, sG⟩ ⟨rfl, hx⟩
            obtain ⟨m, hm, rfl⟩ := int_at hx
            obtain ⟨m0, m1, _, _⟩ := nfin m (mems m (List.mem_of_getElem? hm))
            refine ⟨rfl, _, rfl, m, rfl, by omega, _, hD, ?_, ?_, fun q' o' e' => ?_⟩
            · rw [List.length_map, List.length_map, List.length_take]
              omega
            · rw [upd_same, List.take_add_one, hm, List.map_append, List.map_append]
              rfl
            · rw [upd_ne (ne_of_none e' nD)]
              exact sG _ _ e'
          · rintro G1 ⟨hD, sG⟩
            rw [List.length_map, List.take_length] at hD
            refine ⟨a, dx, t, o, te, sc, D, _, ones, tens, hun, scales, bhF n, s.1.map bhF, rfl, sG _ _ hG, (T.keepA ha keep).same sG, ff, hD, by rw [List.length_map]; omega, b0, b1, fun m hm => ?_, fun G2 h2 k2 => ⟨rfl, h2, fun r u e ne => k2 _ _ (sG _ _ e) ne⟩⟩
            obtain ⟨m', hm', rfl⟩ := List.mem_map.mp hm
            exact ⟨(nfin m' (mems m' hm')).2.2.1, (nfin m' (mems m' hm')).2.2.2⟩
        rintro τ G2 ⟨rfl, h2, k2⟩
        have hol2 := k2 _ _ hol olne
        have spl := spot_le (b := befF ones tens hun scales (s.1.map bhF) (bhF n)) (s.1.map bhF).length 0 (s.1.map bhF).length (Nat.zero_le _)
        rw [List.length_map] at spl
        have spl : (spotN ones tens hun scales (s.1.map bhF) (bhF n)).1 ≤ s.1.length := by
          unfold spotN
          rw [List.length_map]
          exact spl
        refine ⟨_, rfl, .inl ⟨rfl, _, SqL.of hol2⟩, _, rfl, _, rfl, ol, _, _, _, rfl, rfl, hol2, by rw [List.length_map]; omega, by omega, by omega, ?_⟩
        refine ⟨_, _, rfl, ?_, ?_, fun r u e ne => ?_, ?_⟩
        · rw [nxt]
          show (upd G2 ol _) a = _
          rw [upd_ne olne.symm]
          have h2' : G2 a = _ := h2
          rw [h2']
          show some (HO.ins CH dx [("_table", .ref t), ("_questions", .int (q + ((s.2 : Nat) : Int) + (((spotN ones tens hun scales (s.1.map bhF) (bhF n)).2 : Nat) : Int)))]) = some (HO.ins CH dx [("_table", .ref t), ("_questions", .int (q + ((s.2 + (spotN ones tens hun scales (s.1.map bhF) (bhF n)).2 : Nat) : Int)))])
          rw [Int.natCast_add, Int.add_assoc]
        · rw [upd_same, nxt, Int.toNat_natCast]
          show _ = some (HO.lst ((insF _ n s.1).map V.int))
          unfold insF
          rw [List.map_append, List.map_append, List.map_take, List.map_drop]
          rfl
        · have rol : r ≠ ol := fun z => by
            rw [z, nol] at e
            cases e
          rw [upd_ne rol]
          exact k2 _ _ (keep _ _ e ne) ne
        · rw [upd_ne NLol]
          exact k2 _ _ hNLG NLa
      · rintro τ G ⟨x2, x3, rfl, hG, hol, keep, _⟩
        rw [List.length_map, List.take_length] at hG hol
        exact ⟨x2, x3, rfl, hG, hol, keep⟩
    rintro τ G ⟨x2, x3, rfl, hG, hol, keep⟩
    obtain ⟨s, hs⟩ : ∃ s, s = ordF ones tens hun scales NF := ⟨_, rfl⟩
    rw [← hs] at hG hol
    have pm := ord_perm ones tens hun scales NF
    rw [← hs] at pm
    have slen : s.1.length = 27 + scales.length := by rw [pm.length_eq, nflen]
    have mems : ∀ m ∈ s.1, 0 ≤ m ∧ m < Bg.W (scales.length + 1) := fun m hm => by
      have := nfin m (pm.mem_iff.mp hm)
      omega
    have out1 : outF ones tens hun scales = insF (placeF ones tens hun scales s.1) 0 s.1 := by
      unfold outF
      rw [← hNF, ← hs]
    have out2 : hunsF ones tens hun scales = (hunF ones tens hun scales s.1).1 := by
      unfold hunsF
      rw [← hNF, ← hs]
    have out3 : askF ones tens hun scales = s.2 + (hunF ones tens hun scales s.1).2 + (zerF ones tens hun scales s.1).2 := by
      unfold askF
      rw [← hNF, ← hs]
    rw [out1, out2, out3] at k
    -- hundreds
    obtain ⟨hu, hhu⟩ : ∃ z, z = hunF ones tens hun scales s.1 := ⟨_, rfl⟩
    refine ⟨fun τ G2 => ∃ x2 : Option V, τ = [some (.ref a), some (.ref ol), x2, x3, some (.int ((hu.1 : Nat) : Int)), none, none] ∧ HidAt G2 a CH dx t (q + ((s.2 : Nat) : Int) + ((hu.2 : Nat) : Int)) ∧ (∀ r u, G r = some u → r ≠ a → G2 r = some u), ?_, ?_⟩
    · refine ⟨_, rfl, _, rfl, ol, rfl, ⟨_, SqL.of hol⟩, fun D nD => lc_it (walk_list (K := K) (a := ol) (xs := s.1.map V.int)) (fun j G' => G' D = some (.lst (((s.1.take j).filter (fun n : Int => decide (1000 ≤ n))).map V.int)) ∧ Same G G') ⟨upd_same, same_new nD⟩ (fun j G' _ ⟨_, s⟩ => SqL.of (s _ _ hol)) ?_ ?_⟩
      · rintro j x G1 G2 hj ⟨hD, sG⟩ ⟨rfl, hx⟩
        obtain ⟨m, hm, rfl⟩ := int_at hx
        have tk : (s.1.take (j + 1)).filter (fun n : Int => decide (1000 ≤ n)) = (s.1.take j).filter (fun n : Int => decide (1000 ≤ n)) ++ (if (fun n : Int => decide (1000 ≤ n)) m = true then [m] else []) := by
          rw [List.take_add_one, hm, List.filter_append]
          show _ ++ [m].filter _ = _
          rw [List.filter_cons, List.filter_nil]
        have ln := List.length_filter_le (fun n : Int => decide (1000 ≤ n)) (s.1.take j)
        rw [List.length_take] at ln
        refine ⟨rfl, _, rfl, _, _, rfl, rfl, _, rfl, ite2 (fun c => ?_) (fun c => ?_)⟩
        · have c' : (fun n : Int => decide (1000 ≤ n)) m = true := c
          refine ⟨_, rfl, _, hD, by rw [List.length_map]; omega, ?_, fun q' o' e' => ?_⟩
          · rw [upd_same, tk, if_pos c', List.map_append]
            rfl
          · rw [upd_ne (ne_of_none e' nD)]
            exact sG _ _ e'
        · have c' : ¬ (fun n : Int => decide (1000 ≤ n)) m = true := c
          refine ⟨?_, sG⟩
          rw [tk, if_neg c', List.append_nil]
          exact hD
      · rintro G1 ⟨hD, sG⟩
        rw [List.length_map, List.take_length] at hD
        have fl := List.length_filter_le (fun n : Int => decide (1000 ≤ n)) s.1
        refine ⟨a, dx, t, o, te, sc, D, _, ones, tens, hun, scales, 100, s.1.filter (fun n : Int => decide (1000 ≤ n)), rfl, sG _ _ hG, (T.keepA ha keep).same sG, ff, hD, by omega, by decide, by omega, fun m hm => mems m (List.mem_filter.mp hm).1, fun G2 h2 k2 => ?_⟩
        have e : spotN ones tens hun scales (s.1.filter (fun n : Int => decide (1000 ≤ n))) 100 = hu := by
          rw [hhu]
          rfl
        rw [e] at h2 ⊢
        exact ⟨_, rfl, h2, fun r u e ne => k2 _ _ (sG _ _ e) ne⟩
    rintro τ G2 ⟨y2, rfl, hG2, k2⟩
    have hol2 := k2 _ _ hol olne
    have keep2 : ∀ r u, H r = some u → r ≠ a → G2 r = some u := fun r u e ne => k2 _ _ (keep _ _ e ne) ne
    -- plain
    refine ⟨fun τ G3 => ∃ (x2 : Option V) (pl : Addr), τ = [some (.ref a), some (.ref ol), x2, x3, some (.int ((hu.1 : Nat) : Int)), some (.ref pl), none] ∧ Same G2 G3 ∧ G3 pl = some (.lst ((plainF s.1).map V.int)) ∧ G2 pl = none, ?_, ?_⟩
    · refine ⟨_, rfl, ol, rfl, ⟨_, SqL.of hol2⟩, fun D nD => lc_it (walk_list (K := K) (a := ol) (xs := s.1.map V.int)) (fun j G' => G' D = some (.lst (((s.1.take j).filter (fun n : Int => decide (n < 100))).map V.int)) ∧ Same G2 G') ⟨upd_same, same_new nD⟩ (fun j G' _ ⟨_, s⟩ => SqL.of (s _ _ hol2)) ?_ ?_⟩
      · rintro j x G1 G2 hj ⟨hD, sG⟩ ⟨rfl, hx⟩
        obtain ⟨m, hm, rfl⟩ := int_at hx
        have tk : (s.1.take (j + 1)).filter (fun n : Int => decide (n < 100)) = (s.1.take j).filter (fun n : Int => decide (n < 100)) ++ (if (fun n : Int => decide (n < 100)) m = true then [m] else []) := by
          rw [List.take_add_one, hm, List.filter_append]
          show _ ++ [m].filter _ = _
          rw [List.filter_cons, List.filter_nil]
        have ln := List.length_filter_le (fun n : Int => decide (n < 100)) (s.1.take j)
        rw [List.length_take] at ln
        refine ⟨rfl, _, rfl, _, _, rfl, rfl, _, rfl, ite2 (fun c => ?_) (fun c => ?_)⟩
        · have c' : (fun n : Int => decide (n < 100)) m = true := c
          refine ⟨_, rfl, _, hD, by rw [List.length_map]; omega, ?_, fun q' o' e' => ?_⟩
          · rw [upd_same, tk, if_pos c', List.map_append]
            rfl
          · rw [upd_ne (ne_of_none e' nD)]
            exact sG _ _ e'
        · have c' : ¬ (fun n : Int => decide (n < 100)) m = true := c
          refine ⟨?_, sG⟩
          rw [tk, if_neg c', List.append_nil]
          exact hD
      · rintro G1 ⟨hD, sG⟩
        rw [List.length_map, List.take_length] at hD
        exact ⟨_, D, rfl, sG, hD, nD⟩
    rintro τ G3 ⟨z2, pl, rfl, s3, hpl, npl⟩
    have hG3 := s3 _ _ hG2
    have hol3 := s3 _ _ hol2
    have keep3 : ∀ r u, H r = some u → r ≠ a → G3 r = some u := fun r u e ne => s3 _ _ (keep2 r u e ne)
    have pla : pl ≠ a := fun z => by
      rw [z] at npl
      have := npl.symm.trans hG2
      cases this
    have plol : pl ≠ ol := fun z => by
      rw [z, hol2] at npl
      cases npl
    have pfl := List.length_filter_le (fun n : Int => decide (n < 100)) s.1
    have pfl : (plainF s.1).length ≤ s.1.length := pfl
    -- spot of 0
    obtain ⟨ze, hze⟩ : ∃ z, z = zerF ones tens hun scales s.1 := ⟨_, rfl⟩
    refine ⟨fun τ G4 => τ = [some (.ref a), some (.ref ol), z2, some (.int ((ze.1 : Nat) : Int)), some (.int ((hu.1 : Nat) : Int)), some (.ref pl), none] ∧ HidAt G4 a CH dx t (q + ((s.2 : Nat) : Int) + ((hu.2 : Nat) : Int) + ((ze.2 : Nat) : Int)) ∧ (∀ r u, G3 r = some u → r ≠ a → G4 r = some u), ?_, ?_⟩
    · refine ⟨_, rfl, _, rfl, a, dx, t, o, te, sc, pl, _, ones, tens, hun, scales, 0, plainF s.1, rfl, hG3, T.keepA ha keep3, ff, hpl, by omega, by decide, by omega, fun m hm => mems m (List.mem_filter.mp hm).1, fun G4 h4 k4 => ?_⟩
      have e : spotN ones tens hun scales (plainF s.1) 0 = ze := by
        rw [hze]
        rfl
      rw [e] at h4 ⊢
      exact ⟨rfl, h4, k4⟩
    rintro τ G4 ⟨rfl, hG4, k4⟩
    have hol4 := k4 _ _ hol3 olne
    have hpl4 := k4 _ _ hpl pla
    have keep4 : ∀ r u, H r = some u → r ≠ a → G4 r = some u := fun r u e ne => k4 _ _ (keep3 r u e ne) ne
    -- 0 put in
    obtain ⟨at0, hat0⟩ : ∃ z, z = placeF ones tens hun scales s.1 := ⟨_, rfl⟩
    have at0le : at0 ≤ s.1.length := by
      rw [hat0]
      unfold placeF
      split
      · exact List.idxOf_le_length
      · exact Nat.le_refl _
    refine ⟨fun τ G5 => τ = [some (.ref a), some (.ref ol), z2, some (.int ((ze.1 : Nat) : Int)), some (.int ((hu.1 : Nat) : Int)), some (.ref pl), none] ∧ G5 = upd G4 ol (.lst ((insF at0 0 s.1).map V.int)), ?_, ?_⟩
    · have shape : (s.1.map V.int).take (((at0 : Nat) : Int)).toNat ++ [V.int 0] ++ (s.1.map V.int).drop (((at0 : Nat) : Int)).toNat = (insF at0 0 s.1).map V.int := by
        rw [Int.toNat_natCast]
        unfold insF
        rw [List.map_append, List.map_append, List.map_take, List.map_drop]
        rfl
      refine ⟨_, rfl, .inl ⟨rfl, _, SqL.of hol4⟩, _, rfl, _, rfl, pl, _, rfl, .inl (SqL.of hpl4), _, _, rfl, rfl, _, rfl, ite2 (fun c => ?_) (fun c => ?_)⟩
      · have lt : ze.1 < (plainF s.1).length := by
          have := of_decide_eq_true c
          rw [List.length_map] at this
          omega
        have gy : (plainF s.1)[ze.1]? = some ((plainF s.1).getD ze.1 0) := by
          rw [List.getD_eq_getElem?_getD, List.getElem?_eq_getElem lt]
          rfl
        obtain ⟨y, hy⟩ : ∃ y, y = (plainF s.1).getD ze.1 0 := ⟨_, rfl⟩
        rw [← hy] at gy
        have ym : y ∈ s.1 := (List.mem_filter.mp (List.mem_of_getElem? gy)).1
        have e0 : at0 = s.1.idxOf y := by
          rw [hat0]
          unfold placeF
          rw [← hze, if_pos lt, hy]
        have il : s.1.idxOf y < s.1.length := List.idxOf_lt_length_iff.mpr ym
        refine ⟨_, rfl, .inl ⟨rfl, _, SqL.of hol4⟩, _, rfl, _, rfl, pl, _, _, _, rfl, rfl, SqL.of hpl4, atI_nat (show ((plainF s.1).map V.int)[ze.1]? = some (V.int y) by rw [List.getElem?_map, gy]; rfl), ol, s.1.map V.int, .int y, s.1.idxOf y, .int y, rfl, rfl, SqL.of hol4, rfl, ?_, ?_, ?_, fun m z' hm hz => ?_, ?_⟩
        · rw [List.all_map]
          exact List.all_eq_true.mpr fun _ _ => rfl
        · rw [List.getElem?_map, List.getElem?_eq_getElem il, List.getElem_idxOf]
          rfl
        · show (y == y) = true
          exact beq_self_eq_true y
        · rw [List.getElem?_map] at hz
          obtain ⟨v, hv, rfl⟩ := Option.map_eq_some_iff.mp hz
          obtain ⟨hm2, ev⟩ := List.getElem?_eq_some_iff.mp hv
          have h := List.not_of_lt_findIdx (p := (· == y)) (xs := s.1) hm
          show (v == y) = false
          rw [← ev]
          exact eq_false_of_ne_true (by simpa using h)
        · rw [← e0]
          refine ⟨ol, _, _, _, rfl, rfl, hol4, by rw [List.length_map]; omega, by omega, by omega, rfl, ?_⟩
          rw [shape]
      · have ge : ¬ ze.1 < (plainF s.1).length := fun h => c (decide_eq_true (by rw [List.length_map]; omega))
        have e0 : at0 = s.1.length := by
          rw [hat0]
          unfold placeF
          rw [← hze, if_neg ge]
        refine ⟨_, rfl, ol, _, rfl, .inl (SqL.of hol4), ?_⟩
        rw [List.length_map, ← e0]
        refine ⟨ol, _, _, _, rfl, rfl, hol4, by rw [List.length_map]; omega, by omega, by omega, rfl, ?_⟩
        rw [shape]
    rintro τ G5 ⟨rfl, rfl⟩
    refine ⟨_, rfl, _, rfl, by show 2 ≤ sizeLine; omega, fun TT nT => ?_⟩
    have TTol : TT ≠ ol := fun z => by
      rw [z, upd_same] at nT
      cases nT
    have TTa : TT ≠ a := fun z => by
      rw [z, upd_ne olne.symm] at nT
      have := nT.symm.trans hG4
      cases this
    have nT0 : H TT = none := by
      cases e : H TT with
      | none => rfl
      | some u =>
        have := keep4 _ _ e TTa
        rw [upd_ne TTol, this] at nT
        cases nT
    refine k TT ol _ nT0 nol TTol ?_ (fun r u e ne => ?_) ?_ ?_
    · show upd (upd G4 ol _) TT _ a = _
      rw [upd_ne TTa.symm, upd_ne olne.symm]
      have h4 : G4 a = _ := hG4
      rw [h4, ← hhu, ← hze]
      show some (HO.ins CH dx [("_table", .ref t), ("_questions", .int (q + ((s.2 : Nat) : Int) + ((hu.2 : Nat) : Int) + ((ze.2 : Nat) : Int)))]) = some (HO.ins CH dx [("_table", .ref t), ("_questions", .int (q + ((s.2 + hu.2 + ze.2 : Nat) : Int)))])
      rw [show q + ((s.2 : Nat) : Int) + ((hu.2 : Nat) : Int) + ((ze.2 : Nat) : Int) = q + ((s.2 + hu.2 + ze.2 : Nat) : Int) by omega]
    · have rol : r ≠ ol := fun z => by
        rw [z, nol] at e
        cases e
      have rT : r ≠ TT := fun z => by
        rw [z, nT0] at e
        cases e
      rw [upd_ne rT, upd_ne rol]
      exact keep4 _ _ e ne
    · rw [upd_same, ← hhu]
    · rw [upd_ne TTol.symm, upd_same, hat0]
end
end LB
set_option Elab.async false
set_option linter.all false
set_option maxRecDepth 100000
set_option maxHeartbeats 4000000
/-! Orders compared: the numbers one word longer, in the order of their words. -/
namespace LB
open PySem L2 Wk
open Bg (Bg Wo)
def spOneO (K : PySem.W.Frag) : Sp := fun vs H Q _ => ∃ (t o te sc : Addr) (ones tens : List Str) (hun : Str) (scales : List Str) (p : Addr) (b : Bg), vs = [.ref t, .ref p] ∧ TabAt H t ones tens hun scales o te sc ∧ ones.length = 20 ∧ tens.length = 8 ∧ scales.length ≤ 30 ∧
  (ones ++ (tens ++ hun :: scales)).Nodup ∧ SqT K H p (BgV b) ∧ Bg.Ok b ∧ ∀ (L : Addr) (ws : List (Str × Wo)) (H' : Hp), H L = none → Same H H' → H' L = some (.lst ((numsOf b ws).map V.int)) → ws.Perm (voc ones tens hun scales) → ascW ws → Q (.ref L) H'
section
variable {P : Program} {w : World} {K : PySem.W.Frag} {mg : Str → Option Value} {base : Heap}
theorem ok_oneO {f fT fV fO : Addr} {fd dT dV dO : FuncData} (F : Fun K "_one_word_longer" "_one_word_longer" sOneLonger f fd) (DT : Def1 P w K mg base "steps" 3 fT dT ["beginning", "words"] (spSteps K)) (DV : Def1 P w K mg base "vocabulary" 2 fV dV ["table"] spVocab)
    (DO : Def1 P w K mg base "own_number" 1 fO dO ["beginning"] (spOwn K)) : FnOk P w K mg base CX0 4 f fd ["table", "beginning"] (spOneO K) := by
  refine F.ok scOneL (fun vs H Q E h => ?_) (fun cdv A outer s H vs Q E hr h => ?_)
  · obtain ⟨t, o, te, sc, ones, tens, hun, scales, p, b, rfl, _⟩ := h
    rfl
  · obtain ⟨t, o, te, sc, ones, tens, hun, scales, p, b, rfl, TA, l1, l2, l3, nd, hb, ok, k⟩ := h
    have hr3 : Room 3 _ := hr
    have hr2 : Room 2 _ := hr3.mono (by decide)
    have hr1 : Room 1 _ := hr3.mono (by decide)
    refine ⟨_, pss_one (ps_ret (pe_lc (own := [("_", 2), ("longer", 3)]) (g := gTup K 2 (gCons (gName 2) (gCons (gName 3) gNil))) (by rfl) scOneL.nd (pi_list (pe_call DT.ok hr3 (by rfl) DT.g DT.k DT.b .nil pass0 (pa_cons (pv 1) (pa_cons (pe_call DV.ok hr2 (by rfl) DV.g DV.k DV.b .nil pass0 (pa_cons (pv 0) pa_nil)) pa_nil)))) (blkOk_by (own := [("_", 2), ("longer", 3)]) (N := ["table", "beginning", "_", "longer"]) (sc := defScope sOneLonger) (by decide +kernel)) (fun _ _ _ _ _ => pg_tup (by rfl) (pgs_cons (pg_name (i := 2) scOneL.nd rfl (Or.inl rfl)) (pgs_cons (pg_name (i := 3) scOneL.nd rfl (Or.inl rfl)) pgs_nil))) (fun _ _ _ _ _ => pts_nil) (fun _ _ _ _ _ => pe_call DO.ok hr1 (by rfl) DO.g DO.k DO.b .nil pass0 (pa_cons (pv 3) pa_nil)))), ?_⟩
    refine ⟨_, rfl, _, rfl, t, o, te, sc, ones, tens, hun, scales, rfl, TA, by omega, by omega, by omega, nd, fun l vz H1 nl s1 hv nv pm asc => ?_⟩
    have vl : vz.length = (voc ones tens hun scales).length := by
      have z := pm.length_eq
      rw [List.length_map] at z
      exact z
    have vl2 : (voc ones tens hun scales).length ≤ 60 := by
      unfold voc
      simp only [List.length_cons, List.length_append, enumW_len]
      omega
    have hw : ∀ z ∈ vz, Bg.WOk z.2.2 := fun z hz => vocD_ok l1 l2 (pm.mem_iff.mp (List.mem_map.mpr ⟨z, hz, rfl⟩))
    refine ⟨p, b, l, vz, rfl, s1.tp hb, ok, hv, by omega, hw, fun u cs G1 nu s2 hst ec => ?_⟩
    have s12 := Same.trans s1 s2
    have cl : cs.length ≤ 60 := by
      have h1 := congrArg List.length ec
      rw [List.length_map] at h1
      have h2 : (stepsOf b (vz.map (·.2))).length ≤ (vz.map (·.2)).length := List.length_filterMap_le ..
      rw [List.length_map] at h2
      omega
    refine ⟨u, rfl, ⟨_, SqL.of hst.1⟩, fun D nD => lc_it (walk_list (K := K) (a := u) (xs := cs.map fun c => V.ref c.1)) (fun i G => G D = some (.lst (((cs.take i).map fun c => c.2.2.2.t + c.2.2.2.g).map V.int)) ∧ Same G1 G) ?_ ?_ ?_ ?_⟩
    · exact ⟨upd_same, same_new nD⟩
    · rintro i G _ ⟨_, h2⟩
      exact SqL.of (h2 _ _ hst.1)
    · rintro i x G G' hil ⟨h1, h2⟩ ⟨rfl, hx⟩
      obtain ⟨c, hc, rfl⟩ := cs_get hx
      obtain ⟨c1, c2⟩ := hst.2 c (List.mem_of_getElem? hc)
      refine ⟨c.1, _, rfl, SqT.of (h2 _ _ c1), rfl, _, _, rfl, _, _, rfl, rfl, rfl, _, rfl, c.2.2.1, c.2.2.2, rfl, h2.tp c2, ?_⟩
      refine ⟨_, h1, ?_, ?_, fun q' o' e' => ?_⟩
      · rw [List.length_map, List.length_map, List.length_take]
        exact Nat.lt_of_lt_of_le (show min i cs.length < 1001 by omega) (by decide)
      · rw [upd_same, List.take_add_one, hc, List.map_append, List.map_append]
        rfl
      · rw [upd_ne (ne_of_none e' nD)]
        exact h2 _ _ e'
    · rintro G ⟨h1, h2⟩
      rw [List.length_map, List.take_length] at h1
      have e : cs.map (fun c => c.2.2.2.t + c.2.2.2.g) = numsOf b (vz.map (·.2)) := by
        rw [← nums_steps, ← ec, List.map_map]
        rfl
      rw [e] at h1
      exact k D (vz.map (·.2)) G (Same.free s12 nD) (Same.trans s12 h2) h1 pm asc
end
end LB
set_option Elab.async false
set_option linter.all false
set_option maxRecDepth 100000
set_option maxHeartbeats 4000000
/-! Orders compared: the mathematics. -/
namespace LB
open PySem L2 Wk
open Bg (Bg Wo)
/-! ### the numbers behind the three beginnings, by their last words -/
def o0 : Wo → Option Int
  | .low n => some n
  | _ => none
def o1 : Wo → Option Int
  | .hun => some 100
  | .sc i => some (Bg.W (i + 1))
  | .low _ => none
def o2 : Wo → Option Int
  | .low n => if n = 0 then none else some (100 + n)
  | .hun => none
  | .sc i => some (100 * Bg.W (i + 1))
def o3 : Wo → Option Int
  | .low n => if n = 0 then none else some n
  | .hun => none
  | .sc i => some (Bg.W (i + 1))
theorem all_cases {n : Nat} {x : Wo} (h : x ∈ Bg.all n) : x = .hun ∨ (∃ k : Int, 0 ≤ k ∧ k < 100 ∧ x = .low k) ∨ ∃ i, i < n ∧ x = .sc i := by
  rcases List.mem_cons.mp h with h | h
  · exact .inl h
  rcases List.mem_append.mp h with h | h
  · obtain ⟨j, hj, e⟩ := List.mem_map.mp h
    have hj := List.mem_range.mp hj
    exact .inr (.inl ⟨_, by omega, by omega, e.symm⟩)
  rcases List.mem_append.mp h with h | h
  · obtain ⟨j, hj, e⟩ := List.mem_map.mp h
    have hj := List.mem_range.mp hj
    exact .inr (.inl ⟨_, by omega, by omega, e.symm⟩)
  · obtain ⟨j, hj, e⟩ := List.mem_map.mp h
    exact .inr (.inr ⟨j, List.mem_range.mp hj, e.symm⟩)
def ownO (b : Bg) (x : Wo) : Option Int := (Bg.fol b x).map fun c => c.t + c.g
theorem own_b0 {n : Nat} {x : Wo} (h : x ∈ Bg.all n) : ownO (Bg.start n) x = o0 x := by
  unfold ownO
  rcases all_cases h with rfl | ⟨k, k0, k1, rfl⟩ | ⟨i, hi, rfl⟩
  · rfl
  · unfold Bg.fol
    simp only
    by_cases c : k = 0
    · rw [if_pos c, c]
      rfl
    · rw [if_neg c]
      by_cases d : k ≥ 10
      · rw [if_pos d, if_pos (show (Bg.start n).r = 100 from rfl)]
        show some ((0 : Int) + (0 + k)) = some k
        rw [Int.zero_add, Int.zero_add]
      · rw [if_neg d, if_pos (show (Bg.start n).r ≥ 10 from (by decide : (100 : Int) ≥ 10))]
        show some ((0 : Int) + (0 + k)) = some k
        rw [Int.zero_add, Int.zero_add]
  · unfold Bg.fol
    simp only
    rw [if_neg (fun z => absurd (show (0 : Int) < 0 from z.1) (by decide))]
    rfl
theorem own_b1 {n : Nat} {x : Wo} (h : x ∈ Bg.all n) : ownO ⟨0, 1, 1, n + 1⟩ x = o1 x := by
  unfold ownO
  rcases all_cases h with rfl | ⟨k, k0, k1, rfl⟩ | ⟨i, hi, rfl⟩
  · rfl
  · unfold Bg.fol
    simp only
    by_cases c : k = 0
    · rw [if_pos c]
      rfl
    · rw [if_neg c]
      by_cases d : k ≥ 10
      · rw [if_pos d, if_neg (by decide)]
        rfl
      · rw [if_neg d, if_neg (by decide)]
        rfl
  · unfold Bg.fol
    simp only
    rw [if_pos ⟨by decide, by omega⟩]
    show some ((0 : Int) + 1 * Bg.W (i + 1) + 0) = some (Bg.W (i + 1))
    rw [Int.zero_add, Int.one_mul, Int.add_zero]
theorem own_b2 {n : Nat} {x : Wo} (h : x ∈ Bg.all n) : ownO ⟨0, 100, 100, n + 1⟩ x = o2 x := by
  unfold ownO
  rcases all_cases h with rfl | ⟨k, k0, k1, rfl⟩ | ⟨i, hi, rfl⟩
  · rfl
  · unfold Bg.fol o2
    simp only
    by_cases c : k = 0
    · rw [if_pos c, if_pos c]
      rfl
    · rw [if_neg c, if_neg c]
      by_cases d : k ≥ 10
      · rw [if_pos d, if_pos trivial]
        show some ((0 : Int) + (100 + k)) = some (100 + k)
        rw [Int.zero_add]
      · rw [if_neg d, if_pos (by decide)]
        show some ((0 : Int) + (100 + k)) = some (100 + k)
        rw [Int.zero_add]
  · unfold Bg.fol o2
    simp only
    rw [if_pos ⟨by decide, by omega⟩]
    show some ((0 : Int) + 100 * Bg.W (i + 1) + 0) = some (100 * Bg.W (i + 1))
    rw [Int.zero_add, Int.add_zero]
theorem W_ge (i : Nat) : 1000 ≤ Bg.W (i + 1) := Bg.W_le (show 1 ≤ i + 1 by omega)
theorem W_eq {i j : Nat} (h : Bg.W (i + 1) = Bg.W (j + 1)) : i = j := by
  rcases Nat.lt_trichotomy i j with z | z | z
  · have := Bg.W_inj.mpr (show i + 1 < j + 1 by omega)
    omega
  · exact z
  · have := Bg.W_inj.mpr (show j + 1 < i + 1 by omega)
    omega
/-- each of them tells the word -/
def Tells (o : Wo → Option Int) (n : Nat) : Prop := ∀ x ∈ Bg.all n, ∀ y ∈ Bg.all n, ∀ v, o x = some v → o y = some v → x = y
theorem tells0 (n : Nat) : Tells o0 n := by
  intro x hx y hy v h1 h2
  rcases all_cases hx with rfl | ⟨k, k0, k1, rfl⟩ | ⟨i, hi, rfl⟩ <;> rcases all_cases hy with rfl | ⟨l, l0, l1, rfl⟩ | ⟨j, hj, rfl⟩ <;> simp only [o0, reduceCtorEq, Option.some.injEq] at h1 h2
  rw [h1, h2]
theorem tells1 (n : Nat) : Tells o1 n := by
  intro x hx y hy v h1 h2
  rcases all_cases hx with rfl | ⟨k, k0, k1, rfl⟩ | ⟨i, hi, rfl⟩ <;> rcases all_cases hy with rfl | ⟨l, l0, l1, rfl⟩ | ⟨j, hj, rfl⟩ <;> simp only [o1, reduceCtorEq, Option.some.injEq] at h1 h2
  · rfl
  · have := W_ge j
    omega
  · have := W_ge i
    omega
  · rw [W_eq (h1.trans h2.symm)]
theorem tells2 (n : Nat) : Tells o2 n := by
  intro x hx y hy v h1 h2
  rcases all_cases hx with rfl | ⟨k, k0, k1, rfl⟩ | ⟨i, hi, rfl⟩ <;> rcases all_cases hy with rfl | ⟨l, l0, l1, rfl⟩ | ⟨j, hj, rfl⟩ <;> simp only [o2, reduceCtorEq, Option.some.injEq] at h1 h2
  · by_cases c : k = 0
    · rw [if_pos c] at h1; cases h1
    by_cases d : l = 0
    · rw [if_pos d] at h2; cases h2
    rw [if_neg c] at h1
    rw [if_neg d] at h2
    have := Option.some.inj h1
    have := Option.some.inj h2
    rw [show k = l by omega]
  · by_cases c : k = 0
    · rw [if_pos c] at h1; cases h1
    rw [if_neg c] at h1
    have := Option.some.inj h1
    have := W_ge j
    omega
  · by_cases d : l = 0
    · rw [if_pos d] at h2; cases h2
    rw [if_neg d] at h2
    have := Option.some.inj h2
    have := W_ge i
    omega
  · rw [W_eq (show Bg.W (i + 1) = Bg.W (j + 1) by omega)]
theorem nodup_fm {o : Wo → Option Int} {n : Nat} (t : Tells o n) : ∀ {xs : List Wo}, xs.Nodup → (∀ x ∈ xs, x ∈ Bg.all n) → (xs.filterMap o).Nodup
  | [], _, _ => List.nodup_nil
  | x :: xs, nd, hm => by
    obtain ⟨n1, n2⟩ := List.nodup_cons.mp nd
    have ih := nodup_fm t n2 fun y hy => hm y (List.mem_cons_of_mem _ hy)
    rw [List.filterMap_cons]
    cases e : o x with
    | none => exact ih
    | some v =>
      refine List.nodup_cons.mpr ⟨fun h => ?_, ih⟩
      obtain ⟨y, hy, e2⟩ := List.mem_filterMap.mp h
      rw [t x (hm x List.mem_cons_self) y (hm y (List.mem_cons_of_mem _ hy)) v e e2] at n1
      exact n1 hy
/-- two ascending lists of the same words are one -/
theorem asc_one {a b : List (Str × Wo)} (p : a.Perm b) (ha : ascW a) (hb : ascW b) : a = b :=
  List.Perm.eq_of_pairwise (le := fun e f : Str × Wo => WkI.ltS e.1 f.1 = true) (fun x y _ _ h1 h2 => by
    have z := ltS_asym h1
    rw [h2] at z
    cases z) ha hb p
theorem nd_of_map {α β : Type} {f : α → β} : ∀ {l : List α}, (l.map f).Nodup → l.Nodup
  | [], _ => List.nodup_nil
  | x :: l, h => by
    obtain ⟨a, b⟩ := List.nodup_cons.mp h
    exact List.nodup_cons.mpr ⟨fun z => a (List.mem_map.mpr ⟨x, z, rfl⟩), nd_of_map b⟩
/-! ### lists without inversions -/
/-- a stands in a list, b behind it -/
def Inv (M : List Int) (x y : Int) : Prop := ∃ i1 i2 : Nat, M[i1]? = some x ∧ M[i2]? = some y ∧ i2 < i1
theorem nodup_ix {M : List Int} (nd : M.Nodup) {i j : Nat} {x : Int} (h1 : M[i]? = some x) (h2 : M[j]? = some x) : i = j := by
  obtain ⟨a, e1⟩ := List.getElem?_eq_some_iff.mp h1
  obtain ⟨b, e2⟩ := List.getElem?_eq_some_iff.mp h2
  exact (List.getElem_inj nd).mp (e1.trans e2.symm)
theorem chain_pw {R : Int → Int → Prop} : ∀ {l : List Int}, (∀ j x y, l[j]? = some x → l[j + 1]? = some y → R x y) → (∀ x y z, x ∈ l → y ∈ l → z ∈ l → R x y → R y z → R x z) → l.Pairwise R
  | [], _, _ => List.Pairwise.nil
  | [x], _, _ => List.pairwise_singleton _ _
  | x :: y :: l, h, tr => by
    have ih : (y :: l).Pairwise R := chain_pw (fun j a b ha hb => h (j + 1) a b ha hb) fun a b c ha hb hc => tr a b c (List.mem_cons_of_mem _ ha) (List.mem_cons_of_mem _ hb) (List.mem_cons_of_mem _ hc)
    have xy := h 0 x y rfl rfl
    refine List.pairwise_cons.mpr ⟨fun z hz => ?_, ih⟩
    rcases List.mem_cons.mp hz with rfl | hz
    · exact xy
    · exact tr x y z List.mem_cons_self (List.mem_cons_of_mem _ List.mem_cons_self) (List.mem_cons_of_mem _ (List.mem_cons_of_mem _ hz)) xy ((List.pairwise_cons.mp ih).1 z hz)
theorem no_inv {N M : List Int} (nd : M.Nodup) (p : N.Perm M) (h : ∀ j x y, N[j]? = some x → N[j + 1]? = some y → ¬ Inv M x y) : N = M := by
  have at_ : ∀ {x : Int}, x ∈ N → ∃ i, M[i]? = some x := fun {x} hx => List.mem_iff_getElem?.mp (p.mem_iff.mp hx)
  refine List.Perm.eq_of_pairwise (le := fun x y => ¬ Inv M x y) (fun x y hx hy h1 h2 => ?_) (chain_pw h fun x y z hx hy hz h1 h2 => ?_) ?_ p
  · obtain ⟨i, hi⟩ := at_ hx
    obtain ⟨j, hj⟩ := List.mem_iff_getElem?.mp hy
    have a : ¬ j < i := fun z => h1 ⟨i, j, hi, hj, z⟩
    have b : ¬ i < j := fun z => h2 ⟨j, i, hj, hi, z⟩
    have e : i = j := by omega
    subst e
    exact Option.some.inj (hi.symm.trans hj)
  · rintro ⟨i1, i3, e1, e3, lt⟩
    obtain ⟨i2, e2⟩ := at_ hy
    have a : ¬ i2 < i1 := fun z => h1 ⟨i1, i2, e1, e2, z⟩
    have b : ¬ i3 < i2 := fun z => h2 ⟨i2, i3, e2, e3, z⟩
    omega
  · refine List.pairwise_iff_getElem.mpr fun i j hi hj lt => ?_
    rintro ⟨i1, i2, e1, e2, l⟩
    have a := nodup_ix nd e1 (List.getElem?_eq_getElem hi)
    have b := nodup_ix nd e2 (List.getElem?_eq_getElem hj)
    omega
theorem self_inv {N : List Int} (nd : N.Nodup) {j : Nat} {x y : Int} (hx : N[j]? = some x) (hy : N[j + 1]? = some y) : ¬ Inv N x y := by
  rintro ⟨i1, i2, e1, e2, l⟩
  have a := nodup_ix nd e1 hx
  have b := nodup_ix nd e2 hy
  omega
end LB
set_option Elab.async false
set_option linter.all false
set_option maxRecDepth 100000
set_option maxHeartbeats 4000000
/-! Orders compared: what tells an order. -/
namespace LB
open PySem L2 Wk
open Bg (Bg Wo)
def notZ : Wo → Bool
  | .low n => !(n == 0)
  | _ => true
def notH : Wo → Bool
  | .hun => false
  | _ => true
def od : Wo → Option Int
  | .low n => if n = 0 then none else some n
  | _ => none
def os : Wo → Option Int
  | .sc i => some (Bg.W (i + 1))
  | _ => none
def earlyX (xs : List Wo) : List Int := (xs.takeWhile notZ).filterMap o0
def lateX (xs : List Wo) : List Int := (xs.takeWhile notH).filterMap o1
/-- the words of a table in their order, as worths: each of them once -/
structure Row (n : Nat) (xs : List Wo) : Prop where
  nd : xs.Nodup
  mem : ∀ x ∈ xs, x ∈ Bg.all n
  z : Wo.low 0 ∈ xs
  h : Wo.hun ∈ xs
theorem fm_congr {f g : Wo → Option Int} : ∀ {l : List Wo}, (∀ x ∈ l, f x = g x) → l.filterMap f = l.filterMap g
  | [], _ => rfl
  | x :: l, h => by
    rw [List.filterMap_cons, List.filterMap_cons, h x List.mem_cons_self, fm_congr fun y hy => h y (List.mem_cons_of_mem _ hy)]
section
variable {n : Nat} {xs ys : List Wo}
theorem Row.zsplit (R : Row n xs) : ∃ pre post, xs = pre ++ Wo.low 0 :: post ∧ (∀ x ∈ pre, notZ x = true) ∧ ∀ x ∈ post, notZ x = true := by
  obtain ⟨pre, post, e⟩ := List.append_of_mem R.z
  have nd := R.nd
  rw [e] at nd
  obtain ⟨_, n2, n3⟩ := List.nodup_append.mp nd
  have n4 := (List.nodup_cons.mp n2).1
  have key : ∀ x : Wo, x ≠ .low 0 → notZ x = true := by
    intro x hx
    cases x with
    | low k =>
      have : k ≠ 0 := fun z => hx (by rw [z])
      simp [notZ, this]
    | hun => rfl
    | sc i => rfl
  exact ⟨pre, post, e, fun x hx => key x fun z => n3 x hx _ List.mem_cons_self z, fun x hx => key x fun z => n4 (z ▸ hx)⟩
theorem Row.hsplit (R : Row n xs) : ∃ pre post, xs = pre ++ Wo.hun :: post ∧ (∀ x ∈ pre, notH x = true) ∧ ∀ x ∈ post, notH x = true := by
  obtain ⟨pre, post, e⟩ := List.append_of_mem R.h
  have nd := R.nd
  rw [e] at nd
  obtain ⟨_, n2, n3⟩ := List.nodup_append.mp nd
  have n4 := (List.nodup_cons.mp n2).1
  have key : ∀ x : Wo, x ≠ .hun → notH x = true := by
    intro x hx
    cases x with
    | low k => rfl
    | hun => exact absurd rfl hx
    | sc i => rfl
  exact ⟨pre, post, e, fun x hx => key x fun z => n3 x hx _ List.mem_cons_self z, fun x hx => key x fun z => n4 (z ▸ hx)⟩
theorem o0_od {x : Wo} (h : notZ x = true) : o0 x = od x := by
  cases x with
  | low k =>
    have : k ≠ 0 := fun z => by rw [z] at h; cases h
    unfold o0 od
    simp only
    rw [if_neg this]
  | hun => rfl
  | sc i => rfl
theorem o1_os {x : Wo} (h : notH x = true) : o1 x = os x := by
  cases x with
  | low k => rfl
  | hun => cases h
  | sc i => rfl
theorem Row.A (R : Row n xs) : xs.filterMap o0 = (xs.filterMap od).take (earlyX xs).length ++ 0 :: (xs.filterMap od).drop (earlyX xs).length ∧ earlyX xs = (xs.filterMap o0).takeWhile fun v => !(v == 0) := by
  obtain ⟨pre, post, e, h1, h2⟩ := R.zsplit
  have tw : xs.takeWhile notZ = pre := by
    rw [e, List.takeWhile_append_of_pos h1, List.takeWhile_cons_of_neg (by decide), List.append_nil]
  have ee : earlyX xs = pre.filterMap od := by
    unfold earlyX
    rw [tw]
    exact fm_congr fun x hx => o0_od (h1 x hx)
  have d : xs.filterMap od = pre.filterMap od ++ post.filterMap od := by
    rw [e, List.filterMap_append, List.filterMap_cons]
    rfl
  have a : xs.filterMap o0 = pre.filterMap od ++ 0 :: post.filterMap od := by
    rw [e, List.filterMap_append, List.filterMap_cons, fm_congr fun x hx => o0_od (h1 x hx), fm_congr (l := post) fun x hx => o0_od (h2 x hx)]
    rfl
  have nz : ∀ v ∈ pre.filterMap od, (!(v == (0 : Int))) = true := by
    intro v hv
    obtain ⟨x, _, hx⟩ := List.mem_filterMap.mp hv
    cases x with
    | low k =>
      unfold od at hx
      simp only at hx
      by_cases c : k = 0
      · rw [if_pos c] at hx; cases hx
      · rw [if_neg c] at hx
        rw [← Option.some.inj hx]
        simp [c]
    | hun => cases hx
    | sc i => cases hx
  refine ⟨?_, ?_⟩
  · rw [a, d, ee, List.take_left, List.drop_left]
  · rw [a, ee, List.takeWhile_append_of_pos nz, List.takeWhile_cons_of_neg (by decide), List.append_nil]
theorem Row.B (R : Row n xs) : xs.filterMap o1 = (xs.filterMap os).take (lateX xs).length ++ 100 :: (xs.filterMap os).drop (lateX xs).length ∧ lateX xs = (xs.filterMap o1).takeWhile fun v => !(v == 100) := by
  obtain ⟨pre, post, e, h1, h2⟩ := R.hsplit
  have tw : xs.takeWhile notH = pre := by
    rw [e, List.takeWhile_append_of_pos h1, List.takeWhile_cons_of_neg (by decide), List.append_nil]
  have ee : lateX xs = pre.filterMap os := by
    unfold lateX
    rw [tw]
    exact fm_congr fun x hx => o1_os (h1 x hx)
  have d : xs.filterMap os = pre.filterMap os ++ post.filterMap os := by
    rw [e, List.filterMap_append, List.filterMap_cons]
    rfl
  have a : xs.filterMap o1 = pre.filterMap os ++ 100 :: post.filterMap os := by
    rw [e, List.filterMap_append, List.filterMap_cons, fm_congr fun x hx => o1_os (h1 x hx), fm_congr (l := post) fun x hx => o1_os (h2 x hx)]
    rfl
  have nz : ∀ v ∈ pre.filterMap os, (!(v == (100 : Int))) = true := by
    intro v hv
    obtain ⟨x, _, hx⟩ := List.mem_filterMap.mp hv
    cases x with
    | low k => cases hx
    | hun => cases hx
    | sc i =>
      have := W_ge i
      have hx : Bg.W (i + 1) = v := Option.some.inj hx
      have : v ≠ 100 := by omega
      simp [this]
  refine ⟨?_, ?_⟩
  · rw [a, d, ee, List.take_left, List.drop_left]
  · rw [a, ee, List.takeWhile_append_of_pos nz, List.takeWhile_cons_of_neg (by decide), List.append_nil]
theorem Row.lows (R : Row n xs) : xs.filterMap od = (xs.filterMap o3).filter fun v => decide (v < 100) := by
  have key : ∀ {l : List Wo}, (∀ x ∈ l, x ∈ Bg.all n) → l.filterMap od = (l.filterMap o3).filter fun v => decide (v < 100) := by
    intro l
    induction l with
    | nil => intro _; rfl
    | cons x l ih =>
      intro h
      have ih := ih fun y hy => h y (List.mem_cons_of_mem _ hy)
      rw [List.filterMap_cons, List.filterMap_cons]
      rcases all_cases (h x List.mem_cons_self) with rfl | ⟨k, k0, k1, rfl⟩ | ⟨i, hi, rfl⟩
      · exact ih
      · by_cases c : k = 0
        · simp only [od, o3, if_pos c]
          exact ih
        · simp only [od, o3, if_neg c]
          rw [List.filter_cons_of_pos (by exact decide_eq_true k1), ih]
      · have := W_ge i
        simp only [od, o3]
        rw [List.filter_cons_of_neg (by simp; omega)]
        exact ih
  exact key R.mem
theorem Row.scs (R : Row n xs) : xs.filterMap os = (xs.filterMap o3).filter fun v => decide (100 < v) := by
  have key : ∀ {l : List Wo}, (∀ x ∈ l, x ∈ Bg.all n) → l.filterMap os = (l.filterMap o3).filter fun v => decide (100 < v) := by
    intro l
    induction l with
    | nil => intro _; rfl
    | cons x l ih =>
      intro h
      have ih := ih fun y hy => h y (List.mem_cons_of_mem _ hy)
      rw [List.filterMap_cons, List.filterMap_cons]
      rcases all_cases (h x List.mem_cons_self) with rfl | ⟨k, k0, k1, rfl⟩ | ⟨i, hi, rfl⟩
      · exact ih
      · by_cases c : k = 0
        · simp only [os, o3, if_pos c]
          exact ih
        · simp only [os, o3, if_neg c]
          rw [List.filter_cons_of_neg (by simp; omega)]
          exact ih
      · have := W_ge i
        simp only [os, o3]
        rw [List.filter_cons_of_pos (by exact decide_eq_true (by omega)), ih]
  exact key R.mem
def phi (v : Int) : Int := if v < 100 then 100 + v else 100 * v
def psi (v : Int) : Int := if v < 200 then v - 100 else v / 100
theorem C_phi : ∀ {l : List Wo}, (∀ x ∈ l, x ∈ Bg.all n) → l.filterMap o2 = (l.filterMap o3).map phi ∧ l.filterMap o3 = (l.filterMap o2).map psi
  | [], _ => ⟨rfl, rfl⟩
  | x :: l, h => by
    obtain ⟨i1, i2⟩ := C_phi (l := l) fun y hy => h y (List.mem_cons_of_mem _ hy)
    rw [List.filterMap_cons, List.filterMap_cons]
    rcases all_cases (h x List.mem_cons_self) with rfl | ⟨k, k0, k1, rfl⟩ | ⟨i, hi, rfl⟩
    · exact ⟨i1, i2⟩
    · by_cases c : k = 0
      · simp only [o2, o3, if_pos c]
        exact ⟨i1, i2⟩
      · simp only [o2, o3, if_neg c]
        rw [List.map_cons, List.map_cons, ← i1, ← i2]
        refine ⟨?_, ?_⟩
        · rw [show phi k = 100 + k from if_pos k1]
        · rw [show psi (100 + k) = k from (if_pos (by omega)).trans (by omega)]
    · have := W_ge i
      simp only [o2, o3]
      rw [List.map_cons, List.map_cons, ← i1, ← i2]
      refine ⟨?_, ?_⟩
      · rw [show phi (Bg.W (i + 1)) = 100 * Bg.W (i + 1) from if_neg (by omega)]
      · rw [show psi (100 * Bg.W (i + 1)) = Bg.W (i + 1) from (if_neg (by omega)).trans (by omega)]
/-- what comparisons of names can tell is the same exactly if all three orders are -/
theorem same_shape (R : Row n xs) (T : Row n ys) (h0 : xs.filterMap o0 = ys.filterMap o0) (h1 : xs.filterMap o1 = ys.filterMap o1) (h2 : xs.filterMap o2 = ys.filterMap o2) :
    xs.filterMap o3 = ys.filterMap o3 ∧ earlyX xs = earlyX ys ∧ lateX xs = lateX ys := by
  refine ⟨?_, ?_, ?_⟩
  · rw [(C_phi R.mem).2, (C_phi T.mem).2, h2]
  · rw [R.A.2, T.A.2, h0]
  · rw [R.B.2, T.B.2, h1]
theorem same_orders (R : Row n xs) (T : Row n ys) (h3 : xs.filterMap o3 = ys.filterMap o3) (he : (earlyX xs).length = (earlyX ys).length) (hl : (lateX xs).length = (lateX ys).length) :
    xs.filterMap o0 = ys.filterMap o0 ∧ xs.filterMap o1 = ys.filterMap o1 ∧ xs.filterMap o2 = ys.filterMap o2 := by
  refine ⟨?_, ?_, ?_⟩
  · rw [R.A.1, T.A.1, R.lows, T.lows, h3, he]
  · rw [R.B.1, T.B.1, R.scs, T.scs, h3, hl]
  · rw [(C_phi R.mem).1, (C_phi T.mem).1, h3]
end
end LB
set_option Elab.async false
set_option linter.all false
set_option maxRecDepth 100000
set_option maxHeartbeats 4000000
/-! Orders compared: the program's own. -/
namespace LB
open PySem L2 Wk
open Bg (Bg Wo)
section
variable {ones tens : List Str} {hun : Str} {scales : List Str} {ws : List (Str × Wo)}
theorem Voc.row (V : Voc ones tens hun scales ws) : Row scales.length (ws.map (·.2)) := by
  have pm : (ws.map (·.2)).Perm (Bg.all scales.length) := by
    have z := V.perm.map (·.2)
    rwa [voc_snd V.l1 V.l2] at z
  have hw : (ws.map (·.2)).map (wd ones tens hun scales) = ws.map (·.1) := by
    rw [List.map_map]
    exact List.map_congr_left fun e he => (V.word he).1.symm
  refine ⟨?_, fun x hx => pm.mem_iff.mp hx, pm.mem_iff.mpr ?_, pm.mem_iff.mpr List.mem_cons_self⟩
  · have nd : ((ws.map (·.2)).map (wd ones tens hun scales)).Nodup := by
      rw [hw]
      refine List.pairwise_map.mpr (V.asc.imp fun {a b} h z => ?_)
      rw [z, ltS_irrefl] at h
      cases h
    exact nd_of_map nd
  · exact List.mem_cons_of_mem _ (List.mem_append_left _ (List.mem_map.mpr ⟨0, by simp, rfl⟩))
end
/-- the beginnings, and what they tell of a word -/
theorem bgs_tell {n : Nat} {b : Bg} (h : b ∈ bgs n) : ∃ o, Tells o n ∧ ∀ x ∈ Bg.all n, ownO b x = o x := by
  rcases List.mem_cons.mp h with rfl | h
  · exact ⟨o0, tells0 n, fun x hx => own_b0 hx⟩
  rcases List.mem_cons.mp h with rfl | h
  · exact ⟨o1, tells1 n, fun x hx => own_b1 hx⟩
  rw [List.mem_singleton.mp h]
  exact ⟨o2, tells2 n, fun x hx => own_b2 hx⟩
theorem nums_own (b : Bg) (ws : List (Str × Wo)) : numsOf b ws = (ws.map (·.2)).filterMap (ownO b) := rfl
theorem row_nodup {n : Nat} {ws : List (Str × Wo)} {b : Bg} (R : Row n (ws.map (·.2))) (h : b ∈ bgs n) : (numsOf b ws).Nodup := by
  obtain ⟨o, t, e⟩ := bgs_tell h
  rw [nums_own, fm_congr fun x hx => e x (R.mem x hx)]
  exact nodup_fm t R.nd R.mem
theorem nums_alike {ones tens : List Str} {hun : Str} {scales : List Str} {ws : List (Str × Wo)} {ones2 tens2 : List Str} {hun2 : Str} {scales2 : List Str} {ws2 : List (Str × Wo)} (V : Voc ones tens hun scales ws) (V2 : Voc ones2 tens2 hun2 scales2 ws2) (len : scales.length = scales2.length) (b : Bg) : (numsOf b ws).Perm (numsOf b ws2) := by
  have a := V.perm.map (·.2)
  have c := V2.perm.map (·.2)
  rw [voc_snd V.l1 V.l2] at a
  rw [voc_snd V2.l1 V2.l2, ← len] at c
  exact (a.trans c.symm).filterMap _
def spPartO (K : PySem.W.Frag) : Sp := fun vs H Q _ => ∃ (t o te sc : Addr) (ones tens : List Str) (hun : Str) (scales : List Str) (t2 o2 te2 sc2 : Addr) (ones2 tens2 : List Str) (hun2 : Str) (scales2 : List Str) (ws1 ws2 : List (Str × Wo)), vs = [.ref t, .ref t2] ∧
  Tab H t ones tens hun scales o te sc ∧ Tab H t2 ones2 tens2 hun2 scales2 o2 te2 sc2 ∧ scales.length ≤ 21 ∧ scales.length = scales2.length ∧ Voc ones tens hun scales ws1 ∧ Voc ones2 tens2 hun2 scales2 ws2 ∧
  ((∀ b ∈ bgs scales.length, numsOf b ws1 = numsOf b ws2) → ∀ H', Same H H' → Q .non H') ∧
  (∀ (T : Addr) (x y : Int) (b : Bg) (j : Nat) (H' : Hp), b ∈ bgs scales.length → (numsOf b ws1)[j]? = some x → (numsOf b ws1)[j + 1]? = some y → Inv (numsOf b ws2) x y → H T = none → Same H H' → H' T = some (.tup [.int x, .int y]) → Q (.ref T) H')
section
variable {P : Program} {w : World} {K : PySem.W.Frag} {mg : Str → Option Value} {base : Heap}
theorem scPartO : FnScope ["first", "second", "beginning", "numbers", "at", "places", "number"] ["first", "second"] (defScope sParting) := ⟨rfl, rfl, rfl, by decide +kernel, rfl, by decide +kernel, by decide +kernel⟩
theorem ok_partO {f fC fB fL : Addr} {fd dC dB dL : FuncData} (F : Fun K "parting_numbers" "parting_numbers" sParting f fd) (C : Def1 P w K mg base "check_table" 2 fC dC ["table"] spCheck)
    (DB : Def1 P w K mg base "_beginnings" 3 fB dB ["table"] (spBegin K)) (DL : Def1 P w K mg base "_one_word_longer" 4 fL dL ["table", "beginning"] (spOneO K))
    (mL : mg "len" = none) (mE : mg "enumerate" = none) (mR : mg "range" = none) : FnOk P w K mg base CX0 5 f fd ["first", "second"] (spPartO K) := by
  refine F.ok scPartO (fun vs H Q E h => ?_) (fun cdv A outer s H vs Q E hr h => ?_)
  · obtain ⟨t, o, te, sc, ones, tens, hun, scales, t2, o2, te2, sc2, ones2, tens2, hun2, scales2, ws1, ws2, rfl, _⟩ := h
    rfl
  · obtain ⟨t, o, te, sc, ones, tens, hun, scales, t2, o2, te2, sc2, ones2, tens2, hun2, scales2, ws1, ws2, rfl, T1, T2, l21, len, V1, V2, kN, kP⟩ := h
    have hr4 : Room 4 _ := hr
    have hr3 : Room 3 _ := hr.mono (by decide)
    have hr2 : Room 2 _ := hr.mono (by decide)
    have hu := hu_of hr
    refine ⟨_, pss_cons (ps_expr (pe_call C.ok hr2 (by rfl) C.g C.k C.b .nil pass0 (pa_cons (pv 0) pa_nil)))
        (pss_cons (ps_expr (pe_call C.ok hr2 (by rfl) C.g C.k C.b .nil pass0 (pa_cons (pv 1) pa_nil)))
        (pss_cons (ps_if (pt_cmpR op_ne (pe_callB call_len_seq (by rfl) mL PySem.boot_len (pa_cons (pe_ix ix_tup (pv 0) pe_int (fun _ _ => rfl)) pa_nil)) (pe_callB call_len_seq (by rfl) mL PySem.boot_len (pa_cons (pe_ix ix_tup (pv 1) pe_int (fun _ _ => rfl)) pa_nil)) (nomark _)) pss_never pss_nil)
        (pss_cons (ps_for PassesOwn.never rfl (pi_list (pe_call DB.ok hr3 (by rfl) DB.g DB.k DB.b .nil pass0 (pa_cons (pv 0) pa_nil))) (pg_name (i := 2) scPartO.nd rfl (.inl rfl)) (pss_cons (ps_set (i := 3) scPartO.nd rfl (.inl rfl) (pe_call DL.ok hr4 (by rfl) DL.g DL.k DL.b .nil pass0 (pa_cons (pv 0) (pa_cons (pv 2) pa_nil))))
        (pss_mid (ps_setDc (i := 5) (y := "places") (own := [("at", 4), ("number", 6)]) (g := gTup K 2 (gCons (gName 4) (gCons (gName 6) gNil))) (by rfl) scPartO.nd rfl rfl (sw_dict rfl rfl rfl (by decide +kernel)) (pi_enum rfl mE (pa_cons (pe_call DL.ok hr4 (by rfl) DL.g DL.k DL.b .nil pass0 (pa_cons (pv 1) (pa_cons (pv 2) pa_nil))) pa_nil)) (blkOk_by (own := [("at", 4), ("number", 6)]) (N := ["first", "second", "beginning", "numbers", "at", "places", "number"]) (sc := defScope sParting) (by decide +kernel)) (fun _ _ _ _ _ => pg_tup (by rfl) (pgs_cons (pg_name (i := 4) scPartO.nd rfl (Or.inl rfl)) (pgs_cons (pg_name (i := 6) scPartO.nd rfl (Or.inl rfl)) pgs_nil))) (fun _ _ _ _ _ => pts_nil) (fun _ _ _ _ _ => pv 6) (fun _ _ _ _ _ => pv 4))
        (pss_one (ps_for PassesOwn.never rfl (pi_range2 rfl mR (pa_cons pe_int (pa_cons (pe_callB call_len_seq (by rfl) mL PySem.boot_len (pa_cons (pv 3) pa_nil)) pa_nil))) (pg_name (i := 4) scPartO.nd rfl (.inl rfl)) (pss_one (ps_if (pt_cmpR op_gt (pe_dget hu (pv 5) (pe_ix ix_list (pv 3) (pe_op op_sub (pv 4) pe_int) (fun _ _ => rfl)) (fun _ _ => rfl)) (pe_dget hu (pv 5) (pe_ix ix_list (pv 3) (pv 4) (fun _ _ => rfl)) (fun _ _ => rfl)) (nomark _)) (pss_one (ps_ret (pe_tup (pa_cons (pe_ix ix_list (pv 3) (pe_op op_sub (pv 4) pe_int) (fun _ _ => rfl)) (pa_cons (pe_ix ix_list (pv 3) (pv 4) (fun _ _ => rfl)) pa_nil))))) pss_nil)))))))
        (pss_one (ps_ret pe_non))))), ?_⟩
    have a20 := V1.l1
    have a8 := V1.l2
    have b20 := V2.l1
    have b8 := V2.l2
    refine ⟨_, rfl, t, o, te, sc, ones, tens, hun, scales, rfl, T1.tb.at_, a20, a8, by omega, T1.good, fun H1 s1 => ?_⟩
    refine ⟨_, rfl, t2, o2, te2, sc2, ones2, tens2, hun2, scales2, rfl, (T2.same s1).tb.at_, b20, b8, by omega, T2.good, fun H2 s2 => ?_⟩
    have s12 := Same.trans s1 s2
    have TA := T1.same s12
    have TB := T2.same s12
    refine ⟨_, rfl, t, _, _, _, rfl, rfl, SqT.of TA.tb.at_.tup, rfl, sc, _, rfl, .inl (SqL.of TA.tb.at_.ls), ?_⟩
    refine ⟨_, rfl, t2, _, _, _, rfl, rfl, SqT.of TB.tb.at_.tup, rfl, sc2, _, rfl, .inl (SqL.of TB.tb.at_.ls), rfl, _, rfl, ?_⟩
    rw [List.length_map, List.length_map, len, decide_eq_true rfl]
    refine ite2 (fun c1 => by cases c1) (fun _ => ?_)
    have R1 := V1.row
    have R2 := V2.row
    rw [← len] at R2
    refine ⟨_, rfl, t, o, te, sc, ones, tens, hun, scales, rfl, TA.tb.at_, by omega, fun L ps G nL sL hL ep hp => ⟨L, rfl, ⟨_, SqL.of hL⟩, for_list (K := K) (a := L) (xs := ps.map fun x => V.ref x.1)
      (fun i σ G' => ∃ x2 x3 x4 x5 : Option V, σ = [some (.ref t), some (.ref t2), x2, x3, x4, x5, none] ∧ Same G G' ∧ ∀ b ∈ (bgs scales.length).take i, numsOf b ws1 = numsOf b ws2) ⟨none, none, none, none, rfl, Same.refl G, fun b hb => (by simp at hb)⟩ (fun i σ G' _ ⟨_, _, _, _, _, s, _⟩ => SqL.of (s _ _ hL)) ?_ ?_⟩⟩
    · rintro i y σ G' hi ⟨x2, x3, x4, x5, rfl, sG, done⟩
      obtain ⟨⟨q, b⟩, hq, rfl⟩ : ∃ x, ps[i]? = some x ∧ y = V.ref x.1 := by
        rw [List.getElem?_map] at hi
        cases e : ps[i]? with
        | none => rw [e] at hi; cases hi
        | some x => rw [e] at hi; exact ⟨x, rfl, (Option.some.inj hi).symm⟩
      have hqm := List.mem_of_getElem? hq
      have bi : (bgs scales.length)[i]? = some b := by
        rw [← ep, List.getElem?_map, hq]
        rfl
      have bm : b ∈ bgs scales.length := List.mem_of_getElem? bi
      have hb := hp _ hqm
      have okb := bgs_ok _ b bm
      have sHG := Same.trans sL sG
      have nd2 := row_nodup R2 bm
      have pm12 := nums_alike V1 V2 len b
      refine ⟨_, rfl, _, rfl, t, o, te, sc, ones, tens, hun, scales, q, b, rfl, (TA.same sHG).tb.at_, a20, a8, by omega, V1.nd, sG.tp hb, okb, fun N1 wsa I1 n1 s1' h1 pma asa => ?_⟩
      rw [asc_one (pma.trans V1.perm.symm) asa V1.asc] at h1
      obtain ⟨ns1, hns1⟩ : ∃ l, l = numsOf b ws1 := ⟨_, rfl⟩
      rw [← hns1] at h1
      have sI1 := Same.trans sHG s1'
      have ln1 : ns1.length ≤ 60 := by
        have a := nums_len (b := b) (l := ws1)
        have c := V1.perm.length_eq
        rw [voc_len] at c
        rw [hns1]
        omega
      obtain ⟨ns2, hns2⟩ : ∃ l, l = numsOf b ws2 := ⟨_, rfl⟩
      rw [← hns2] at nd2 pm12
      rw [← hns1] at pm12
      refine ⟨fun τ J => ∃ (D : Addr) (kvs : List (Key × V)), τ = [some (.ref t), some (.ref t2), some (.ref q), some (.ref N1), x4, some (.ref D), none] ∧ Same I1 J ∧ J D = some (.dK kvs) ∧ (∀ k m, ns2[m]? = some k → valV kvs (Sum.inl k) = some (.int (m : Nat))), ?_, ?_⟩
      · refine ⟨_, rfl, _, rfl, t2, o2, te2, sc2, ones2, tens2, hun2, scales2, q, b, rfl, (TB.same sI1).tb.at_, b20, b8, by omega, V2.nd, s1'.tp (sG.tp hb), okb, fun N2 wsb I2 n2 s2' h2 pmb asb => ?_⟩
        rw [asc_one (pmb.trans V2.perm.symm) asb V2.asc, ← hns2] at h2
        have ln2 : ns2.length ≤ 60 := by rw [← pm12.length_eq]; exact ln1
        refine ⟨N2, _, rfl, SqL.of h2, fun D nD => dc_it (walk_enum (K := K) (a := N2) (xs := ns2.map V.int)) (fun i J => ∃ kvs : List (Key × V), J D = some (.dK kvs) ∧ kvs.length ≤ i ∧ (∀ k m, m < i → ns2[m]? = some k → valV kvs (Sum.inl k) = some (.int (m : Nat))) ∧ Same I2 J)
          ⟨[], upd_same, Nat.le_refl _, fun k m hm => absurd hm (Nat.not_lt_zero _), same_new nD⟩ (fun i J _ ⟨_, _, _, _, s⟩ => SqL.of (s _ _ h2)) ?_ ?_⟩
        · rintro i x J J' hi ⟨kvs, hD, kl, hk, sJ⟩ ⟨T, y1, y2, rfl, nT, rfl, hy1, hy2⟩
          cases hy1
          obtain ⟨n, hn, rfl⟩ := ints_at hy2
          have il := (List.getElem?_eq_some_iff.mp hn).1
          have DT : D ≠ T := ne_of_none hD nT
          refine ⟨T, _, rfl, SqT.of upd_same, rfl, _, _, rfl, _, _, rfl, rfl, rfl, _, rfl, _, rfl, kvs, Sum.inl n, rfl, (upd_ne DT).trans hD, by show _ < sizeLine; exact Nat.lt_of_lt_of_le (show kvs.length < 1001 by omega) (by decide), ?_⟩
          refine ⟨_, upd_same, by have := length_putK kvs (Sum.inl n : Key) (V.int (i : Nat)); omega, fun k m hm hk2 => ?_, fun q' o' e' => ?_⟩
          · rw [valV_put]
            by_cases e : (Sum.inl k : Key) = Sum.inl n
            · rw [if_pos e]
              have e := Sum.inl.inj e
              rw [e] at hk2
              rw [nodup_ix nd2 hk2 hn]
            · rw [if_neg e]
              rcases Nat.lt_or_ge m i with z | z
              · exact hk k m z hk2
              · have mi : m = i := by omega
                rw [mi, hn] at hk2
                exact absurd (congrArg Sum.inl (Option.some.inj hk2).symm) e
          · rw [upd_ne (ne_of_none e' nD)]
            exact upd_keep (sJ _ _ e') nT
        · rintro J ⟨kvs, hD, kl, hk, sJ⟩
          refine ⟨D, kvs, rfl, Same.trans s2' sJ, hD, fun k m h => hk k m ?_ h⟩
          rw [List.length_map]
          exact (List.getElem?_eq_some_iff.mp h).1
      rintro τ J ⟨D, kvs, rfl, sJ, hD, hk⟩
      have hN := sJ _ _ h1
      refine ⟨_, rfl, N1, _, rfl, .inl (SqL.of hN), 1, _, rfl, ⟨by decide, by decide, by omega, by rw [List.length_map]; omega⟩, for_range (lo := 1) (n := _) (fun i σ J' => J' = J ∧ (∀ j x y, j < i → ns1[j]? = some x → ns1[j + 1]? = some y → ¬ Inv ns2 x y) ∧ ∃ x4 : Option V, σ = [some (.ref t), some (.ref t2), some (.ref q), some (.ref N1), x4, some (.ref D), none]) ⟨rfl, fun j x y hj => absurd hj (Nat.not_lt_zero _), _, rfl⟩ ?_ ?_⟩
      · rintro j σ J' hj ⟨rfl, free, x4, rfl⟩
        rw [List.length_map] at hj
        have j1 : j + 1 < ns1.length := by omega
        obtain ⟨i1, e1⟩ := List.mem_iff_getElem?.mp (pm12.mem_iff.mp (List.getElem_mem (show j < ns1.length by omega)))
        obtain ⟨i2, e2⟩ := List.mem_iff_getElem?.mp (pm12.mem_iff.mp (List.getElem_mem j1))
        have a1 : atI (ns1.map V.int) (1 + (j : Int) - 1) = some (.int ns1[j]) := by
          rw [show (1 + (j : Int) - 1) = ((j : Nat) : Int) by omega]
          exact atI_nat (by rw [List.getElem?_map, List.getElem?_eq_getElem (by omega)]; rfl)
        have a2 : atI (ns1.map V.int) (1 + (j : Int)) = some (.int ns1[j + 1]) := by
          rw [show (1 + (j : Int)) = ((j + 1 : Nat) : Int) by omega]
          exact atI_nat (by rw [List.getElem?_map, List.getElem?_eq_getElem j1]; rfl)
        refine ⟨_, rfl, _, rfl, _, rfl, _, _, rfl, rfl, N1, _, _, _, rfl, rfl, SqL.of hN, a1, D, _, rfl, .inl ⟨kvs, Sum.inl ns1[j], .inl hD, rfl, (hk _ _ e1).symm⟩, ?_⟩
        refine ⟨_, rfl, _, rfl, _, rfl, N1, _, _, _, rfl, rfl, SqL.of hN, a2, D, _, rfl, .inl ⟨kvs, Sum.inl ns1[j + 1], .inl hD, rfl, (hk _ _ e2).symm⟩, ?_⟩
        refine ⟨_, _, rfl, rfl, _, rfl, ite2 (fun c => ?_) (fun c => ⟨rfl, fun m x y hm hx hy => ?_, _, rfl⟩)⟩
        · have lt : i2 < i1 := by
            have z : ((i2 : Nat) : Int) < ((i1 : Nat) : Int) := of_decide_eq_true c
            omega
          refine ⟨_, rfl, _, rfl, _, _, rfl, rfl, N1, _, _, _, rfl, rfl, SqL.of hN, a1, _, rfl, _, rfl, N1, _, _, _, rfl, rfl, SqL.of hN, a2, by show 2 ≤ sizeLine; decide, fun T nT => ?_⟩
          have sAll := Same.trans s12 (Same.trans sI1 sJ)
          refine kP T _ _ b j _ bm ?_ ?_ ⟨i1, i2, by rw [← hns2]; exact e1, by rw [← hns2]; exact e2, lt⟩ (Same.free sAll nT) (Same.trans sAll (same_new nT)) upd_same
          · rw [← hns1]; exact List.getElem?_eq_getElem (by omega)
          · rw [← hns1]; exact List.getElem?_eq_getElem j1
        · rcases Nat.lt_or_ge m j with z | z
          · exact free m x y z hx hy
          · have mj : m = j := by omega
            subst mj
            rw [List.getElem?_eq_getElem (by omega)] at hx
            rw [List.getElem?_eq_getElem j1] at hy
            rintro ⟨k1, k2, f1, f2, l⟩
            rw [← Option.some.inj hx] at f1
            rw [← Option.some.inj hy] at f2
            have q1 := nodup_ix nd2 f1 e1
            have q2 := nodup_ix nd2 f2 e2
            refine c (decide_eq_true ?_)
            show ((i2 : Nat) : Int) < ((i1 : Nat) : Int)
            omega
      · rintro σ J' ⟨rfl, free, x4, rfl⟩
        rw [List.length_map] at free
        refine ⟨_, _, _, _, rfl, Same.trans sG (Same.trans s1' sJ), fun c hc => ?_⟩
        rw [List.take_add_one, bi] at hc
        rcases List.mem_append.mp hc with hc | hc
        · exact done c hc
        · rw [List.mem_singleton.mp hc, ← hns1, ← hns2]
          refine no_inv nd2 pm12 fun j x y hx hy => free j x y ?_ hx hy
          have a := (List.getElem?_eq_some_iff.mp hx).1
          have c := (List.getElem?_eq_some_iff.mp hy).1
          omega
    · rintro σ G' ⟨x2, x3, x4, x5, rfl, sG, done⟩
      refine kN (fun b hb => done b ?_) _ (Same.trans s12 (Same.trans sL sG))
      have e : (ps.map fun x => V.ref x.1).length = (bgs scales.length).length := by rw [← ep, List.length_map, List.length_map]
      rw [e, List.take_length]
      exact hb
end
end LB
set_option Elab.async false
set_option linter.all false
set_option maxRecDepth 100000
set_option maxHeartbeats 4000000
/-! Orders compared: the names of the numbers that part. -/
namespace LB
open PySem L2 Wk
open Bg (Bg Wo)
def preOf (b : Bg) : List Wo := if b.g = 0 then [] else if b.g = 1 then [.low 1] else [.low 1, .hun]
theorem pre_path {n : Nat} {b : Bg} (h : b ∈ bgs n) : Bg.folL (Bg.start n) (preOf b) = some b ∧ ∀ x ∈ preOf b, x ∈ Bg.all n := by
  have m1 : Wo.low 1 ∈ Bg.all n := List.mem_cons_of_mem _ (List.mem_append_left _ (List.mem_map.mpr ⟨1, by simp, rfl⟩))
  have mh : Wo.hun ∈ Bg.all n := List.mem_cons_self
  rcases List.mem_cons.mp h with rfl | h
  · exact ⟨rfl, fun x hx => by cases hx⟩
  rcases List.mem_cons.mp h with rfl | h
  · exact ⟨rfl, fun x hx => by rw [List.mem_singleton.mp hx]; exact m1⟩
  rw [List.mem_singleton.mp h]
  refine ⟨rfl, fun x hx => ?_⟩
  rcases List.mem_cons.mp hx with rfl | hx
  · exact m1
  · rw [List.mem_singleton.mp hx]; exact mh
theorem own_bnd {n : Nat} {b : Bg} (h : b ∈ bgs n) {x : Wo} (hx : x ∈ Bg.all n) {v : Int} (e : ownO b x = some v) : 0 ≤ v ∧ v < Bg.W (n + 1) ∧ (v = 0 → ∀ c, Bg.fol b x = some c → Bg.has c = true) := by
  have w1 : 1000 ≤ Bg.W (n + 1) := W_ge n
  have ws : ∀ i, i < n → 1000 * Bg.W (i + 1) ≤ Bg.W (n + 1) := fun i hi => Bg.W_lt (by omega)
  have key : ∀ o : Wo → Option Int, (∀ x ∈ Bg.all n, ownO b x = o x) → (o = o0 ∨ o = o1 ∨ o = o2) → (o = o0 → b = Bg.start n) → 0 ≤ v ∧ v < Bg.W (n + 1) ∧ (v = 0 → ∀ c, Bg.fol b x = some c → Bg.has c = true) := by
    intro o ho hc hs
    have e := (ho x hx).symm.trans e
    rcases hc with rfl | rfl | rfl
    · have hs := hs rfl
      rcases all_cases hx with rfl | ⟨k, k0, k1, rfl⟩ | ⟨i, hi, rfl⟩
      · cases e
      · have e : k = v := Option.some.inj e
        refine ⟨by omega, by omega, fun z c hc => ?_⟩
        rw [hs, show k = 0 by omega] at hc
        have hc : some Bg.zero = some c := hc
        rw [← Option.some.inj hc]
        rfl
      · cases e
    · rcases all_cases hx with rfl | ⟨k, k0, k1, rfl⟩ | ⟨i, hi, rfl⟩
      · have e : (100 : Int) = v := Option.some.inj e
        exact ⟨by omega, by omega, fun z => by omega⟩
      · cases e
      · have e : Bg.W (i + 1) = v := Option.some.inj e
        have := W_ge i
        have := ws i hi
        exact ⟨by omega, by omega, fun z => by omega⟩
    · rcases all_cases hx with rfl | ⟨k, k0, k1, rfl⟩ | ⟨i, hi, rfl⟩
      · cases e
      · unfold o2 at e
        simp only at e
        by_cases c : k = 0
        · rw [if_pos c] at e; cases e
        · rw [if_neg c] at e
          have e : 100 + k = v := Option.some.inj e
          exact ⟨by omega, by omega, fun z => by omega⟩
      · have e : 100 * Bg.W (i + 1) = v := Option.some.inj e
        have := W_ge i
        have := ws i hi
        exact ⟨by omega, by omega, fun z => by omega⟩
  rcases List.mem_cons.mp h with rfl | h
  · exact key o0 (fun x hx => own_b0 hx) (.inl rfl) fun _ => rfl
  rcases List.mem_cons.mp h with rfl | h
  · exact key o1 (fun x hx => own_b1 hx) (.inr (.inl rfl)) fun z => absurd (congrFun z .hun) (by intro y; cases y)
  · have e2 := List.mem_singleton.mp h
    subst e2
    exact key o2 (fun x hx => own_b2 hx) (.inr (.inr rfl)) fun z => absurd (congrFun z (.low 0)) (by intro y; cases y)
section
variable {ones tens : List Str} {hun : Str} {scales : List Str} {ws : List (Str × Wo)}
theorem nm_own (V : Voc ones tens hun scales ws) {b : Bg} (hb : b ∈ bgs scales.length) {e : Str × Wo} (he : e ∈ ws) {v : Int} (hv : ownO b e.2 = some v) :
    0 ≤ v ∧ v < Bg.W (scales.length + 1) ∧ nmL ones tens hun scales v = (preOf b).map (wd ones tens hun scales) ++ [e.1] := by
  obtain ⟨we, wa⟩ := V.word he
  obtain ⟨v0, v1, hz⟩ := own_bnd hb wa hv
  refine ⟨v0, v1, ?_⟩
  obtain ⟨p1, p2⟩ := pre_path hb
  unfold ownO at hv
  cases hf : Bg.fol b e.2 with
  | none => rw [hf] at hv; cases hv
  | some c =>
    rw [hf] at hv
    have cv : c.t + c.g = v := Option.some.inj hv
    have hc : Bg.has c = true := by
      by_cases z : v = 0
      · exact hz z c hf
      · unfold Bg.has
        rw [decide_eq_true (show c.t + c.g > 0 by omega)]
        rfl
    have fA : Bg.folL (Bg.start scales.length) (preOf b ++ [e.2]) = some c := by
      rw [Bg.folL_app, p1]
      show (Bg.fol b e.2).bind (fun d => Bg.folL d []) = some c
      rw [hf]
      rfl
    obtain ⟨d, d1, d2, d3⟩ := Bg.name_path v0 v1
    have one := Bg.start_all (k := scales.length) v0 (Int.le_refl _) v1
    have q := path_words V (Bg.start_ok _) (Nat.le_refl _) (A := preOf b ++ [e.2]) (fun x hx => by
      rcases List.mem_append.mp hx with h | h
      · exact p2 x h
      · rw [List.mem_singleton.mp h]; exact wa) Bg.name_all fA d1 hc d2 cv d3 (by omega)
    unfold nmL
    rw [← q, List.map_append, we]
    rfl
theorem ltL_pre : ∀ (p : List Str) (a b : Str), ltL (p ++ [a]) (p ++ [b]) = WkI.ltS a b
  | [], a, b => by
    show (if WkI.ltS a b = true then true else if a = b then ltL [] [] else false) = WkI.ltS a b
    cases c : WkI.ltS a b with
    | true => rfl
    | false =>
      rw [if_neg Bool.false_ne_true]
      split <;> rfl
  | x :: p, a, b => by
    show (if WkI.ltS x x = true then true else if x = x then ltL (p ++ [a]) (p ++ [b]) else false) = _
    rw [ltS_irrefl, if_neg Bool.false_ne_true, if_pos rfl]
    exact ltL_pre p a b
/-- the numbers one word longer stand in the order of their names -/
theorem nums_pw (V : Voc ones tens hun scales ws) {b : Bg} (hb : b ∈ bgs scales.length) : (numsOf b ws).Pairwise fun x y => ltL (nmL ones tens hun scales x) (nmL ones tens hun scales y) = true := by
  rw [nums_own, List.filterMap_map, List.pairwise_filterMap]
  refine (List.Pairwise.and_mem.mp V.asc).imp ?_
  rintro e f ⟨he, hf, lt⟩ x hx y hy
  obtain ⟨_, _, ex⟩ := nm_own V hb he hx
  obtain ⟨_, _, ey⟩ := nm_own V hb hf hy
  rw [ex, ey, ltL_pre]
  exact lt
theorem nums_bnd (V : Voc ones tens hun scales ws) {b : Bg} (hb : b ∈ bgs scales.length) {x : Int} (hx : x ∈ numsOf b ws) : 0 ≤ x ∧ x < Bg.W (scales.length + 1) := by
  rw [nums_own] at hx
  obtain ⟨w, hw, e⟩ := List.mem_filterMap.mp hx
  obtain ⟨p, hp, rfl⟩ := List.mem_map.mp hw
  obtain ⟨a, c, _⟩ := nm_own V hb hp e
  exact ⟨a, c⟩
theorem pw_at {R : Int → Int → Prop} {l : List Int} (p : l.Pairwise R) {i j : Nat} {x y : Int} (hx : l[i]? = some x) (hy : l[j]? = some y) (lt : i < j) : R x y := by
  obtain ⟨a, e1⟩ := List.getElem?_eq_some_iff.mp hx
  obtain ⟨b, e2⟩ := List.getElem?_eq_some_iff.mp hy
  rw [← e1, ← e2]
  exact List.pairwise_iff_getElem.mp p i j a b lt
end
/-- the numbers that part two tables -/
theorem pair_ok {ones tens : List Str} {hun : Str} {scales : List Str} {ws : List (Str × Wo)} {ones2 tens2 : List Str} {hun2 : Str} {scales2 : List Str} {ws2 : List (Str × Wo)} (V : Voc ones tens hun scales ws) (V2 : Voc ones2 tens2 hun2 scales2 ws2) (len : scales.length = scales2.length)
    {b : Bg} (hb : b ∈ bgs scales.length) {j : Nat} {x y : Int} (hx : (numsOf b ws)[j]? = some x) (hy : (numsOf b ws)[j + 1]? = some y) (hi : Inv (numsOf b ws2) x y) :
    (0 ≤ x ∧ x < Bg.W (scales.length + 1)) ∧ (0 ≤ y ∧ y < Bg.W (scales.length + 1)) ∧ x ≠ y ∧ ltL (nmL ones tens hun scales x) (nmL ones tens hun scales y) = true ∧ ltL (nmL ones2 tens2 hun2 scales2 y) (nmL ones2 tens2 hun2 scales2 x) = true := by
  have a := pw_at (nums_pw V hb) hx hy (Nat.lt_succ_self j)
  have hb2 : b ∈ bgs scales2.length := by rw [← len]; exact hb
  obtain ⟨i1, i2, e1, e2, lt⟩ := hi
  have c := pw_at (nums_pw V2 hb2) e2 e1 lt
  refine ⟨nums_bnd V hb (List.mem_of_getElem? hx), nums_bnd V hb (List.mem_of_getElem? hy), fun z => ?_, a, c⟩
  rw [z, ltL_irrefl] at a
  cases a
end LB
set_option Elab.async false
set_option linter.all false
set_option maxRecDepth 100000
set_option maxHeartbeats 4000000
/-! sorted of a list of pairs (text, number), no text twice. -/
namespace WkI
open PySem PySem.Spec PyProof.Rows L2 SrtO PySem.W
/-- sorted(xs) -/
def rSortSI (K : PySem.W.Frag) : List V → Hp → VK → Prop := fun vs H Q => ∃ (a : Addr) (zs : List (Addr × Str × Int)), vs = [V.ref a] ∧ SqL K H a (zs.map fun z => V.ref z.1) ∧ (∀ z ∈ zs, H z.1 = some (.tup [.str z.2.1, .int z.2.2])) ∧ (zs.map (·.2.1)).Nodup ∧ zs.length ≤ 1000 ∧
  ∀ (ys : List (Addr × Str × Int)) (p : Addr), ys.Perm zs → ys.Pairwise (fun x y => ltS x.2.1 y.2.1 = true) → H p = none → Q (.ref p) (upd H p (.lst (ys.map fun z => V.ref z.1)))
theorem refs_vals : ∀ {zs : List (Addr × Str × Int)} {us : List Value}, Vals (zs.map fun z => V.ref z.1) us → us = zs.map fun z => Value.ref z.1
  | [], _, .nil => rfl
  | z :: zs, _, .cons h t => by
    rw [List.map_cons, ← refs_vals t]
    exact congrArg (fun y => y :: _) h
section
variable {X : Cx}
theorem cr_sortedSI : CallR X (.builtin "sorted") (rSortSI X.K) := by
  intro pins s σ H vs us Q I r h
  obtain ⟨a, zs, rfl, hs, hz, nd, l1000, q⟩ := h
  obtain ⟨its, rv, hl, hsz⟩ := I.list hs
  rw [Vals.ref1 r]
  have big : 1000 ≤ sizeLine := by decide
  have ei := refs_vals rv
  subst ei
  have pin : ∀ z ∈ zs, PairSI s.heap (.ref z.1) z.2.1 z.2.2 := by
    intro z hm
    obtain ⟨_, its2, r2, o, ho, hc, n, hd⟩ := I.hok _ _ (hz z hm)
    obtain ⟨u1, u2, rfl, ri, rj⟩ := vals2 r2
    obtain ⟨t1, rfl⟩ := ri
    obtain ⟨t2, rfl⟩ := rj
    exact ⟨z.1, t1, t2, rfl, o, ho, hc, n, hd⟩
  let M : Str → Int := fun x => ((zs.find? fun e => decide (e.2.1 = x)).map (·.2.2)).getD 0
  have hM : ∀ e ∈ zs, M e.2.1 = e.2.2 := by
    intro e he
    have go : ∀ l : List (Addr × Str × Int), (l.map (·.2.1)).Nodup → e ∈ l → l.find? (fun f => decide (f.2.1 = e.2.1)) = some e := by
      intro l
      induction l with
      | nil => intro _ h; cases h
      | cons x l ih =>
        intro n h
        rw [List.map_cons, List.nodup_cons] at n
        rcases List.mem_cons.mp h with z | z
        · subst z
          rw [List.find?_cons_of_pos (by simp)]
        · rw [List.find?_cons_of_neg, ih n.2 z]
          intro c
          have c' := of_decide_eq_true c
          exact n.1 (by rw [c']; exact List.mem_map.mpr ⟨e, z, rfl⟩)
    show ((zs.find? fun f => decide (f.2.1 = e.2.1)).map (·.2.2)).getD 0 = e.2.2
    rw [go zs nd he]
    rfl
  have tx : ∀ z ∈ zs, kx s.heap (.ref z.1) = z.2.1 := fun z hm => (pin z hm).kx
  have pairs : ∀ v ∈ zs.map (fun z => Value.ref z.1), PairSI s.heap v (kx s.heap v) (M (kx s.heap v)) := by
    intro v hv
    obtain ⟨z, hm, rfl⟩ := List.mem_map.mp hv
    rw [tx z hm, hM z hm]
    exact pin z hm
  refine SrtO.sorted_ord (swoS (kx s.heap)) hl.isList (by rw [List.length_map]; omega) (fun h2 h₁ b ha kk => ?_) fun out o1 o2 => ?_
  · refine pairs_sortableS (s := { s with heap := h₁ }) (M := M) (by omega) (fun v hv => (pairs v hv).keeps fun c o e _ => (kk c o e).2) fun o e => ?_
    have e' : some o = some (seqObj "list" (zs.map fun z => Value.ref z.1).toArray 0) := e.symm.trans ha
    cases e'
    intro c
    exact absurd (Value.type.inj c) (by decide)
  · obtain ⟨ys, py, ey⟩ := perm_lift (fun z : Addr × Str × Int => Value.ref z.1) o2.perm zs rfl
    have hkn : (ys.map (·.2.1)).Nodup := (py.map (·.2.1)).nodup_iff.mpr nd
    have hsort : ys.Pairwise fun x y => ltS x.2.1 y.2.1 = true := by
      have o1' : (ys.map fun z => Value.ref z.1).Pairwise fun x y => ltS (kx s.heap y) (kx s.heap x) = false := by
        rw [ey]
        exact o1
      rw [List.pairwise_map] at o1'
      have both := List.Pairwise.and o1' (List.pairwise_map.mp hkn)
      refine List.Pairwise.imp_of_mem (fun {x y} hx hy h => ?_) both
      obtain ⟨h1, h3⟩ := h
      rw [tx x (py.mem_iff.mp hx), tx y (py.mem_iff.mp hy)] at h1
      cases e : ltS x.2.1 y.2.1 with
      | true => rfl
      | false => exact absurd (ltS_tri e h1) h3
    have hlen : (ys.map fun z => V.ref z.1).length ≤ sizeLine := by
      have e := py.length_eq
      rw [List.length_map]
      omega
    have rv2 : Vals (ys.map fun z => V.ref z.1) out := by
      rw [← ey]
      exact vals_maps (fun z : Addr × Str × Int => V.ref z.1) (fun z => Value.ref z.1) ys fun _ _ => rfl
    obtain ⟨ep, he'⟩ := PyProof.Rows.sortedAll_at s.heap (zs.map fun z => Value.ref z.1) out.toArray
    exact ⟨.ref _, upd H (s.heap.objs.size + 1) (.lst (ys.map fun z => V.ref z.1)), I.laid (t' := s.toks) (fun _ _ => PyProof.Rows.sortedAll_old) (Nat.le_succ _) ⟨hlen, out, ep, rv2, he'⟩, rfl, q ys _ py hsort (I.hok.fresh (Nat.le_succ _))⟩
end
end WkI
set_option Elab.async false
set_option linter.all false
set_option maxRecDepth 100000
set_option maxHeartbeats 4000000
/-! Orders compared: the words with their values. -/
namespace LB
open PySem L2 Wk
open Bg (Bg Wo)
/-- a word with its value -/
def sI (e : Str × Wo) : Option (Str × Int) := (o3 e.2).map fun v => (e.1, v)
/-- a list of pairs of a text and a number stands in the heap -/
def PrsAt (H : Hp) (l : Addr) (zs : List (Addr × Str × Int)) : Prop := H l = some (.lst (zs.map fun z => V.ref z.1)) ∧ ∀ z ∈ zs, H z.1 = some (.tup [.str z.2.1, .int z.2.2])
theorem PrsAt.same {H G : Hp} {l : Addr} {zs : List (Addr × Str × Int)} (p : PrsAt H l zs) (s : Same H G) : PrsAt G l zs := ⟨s _ _ p.1, fun z hz => s _ _ (p.2 z hz)⟩
/-- one pair more -/
theorem PrsAt.snoc {H : Hp} {l u : Addr} {zs : List (Addr × Str × Int)} {x : Str} {v : Int} (p : PrsAt H l zs) (nu : H u = none) :
    PrsAt (upd (upd H u (.tup [.str x, .int v])) l (.lst ((zs.map fun z => V.ref z.1) ++ [.ref u]))) l (zs ++ [(u, x, v)]) := by
  have ul : u ≠ l := fun z => by
    rw [z, p.1] at nu
    cases nu
  refine ⟨by rw [upd_same, List.map_append]; rfl, fun z hz => ?_⟩
  rcases List.mem_append.mp hz with h | h
  · have e := p.2 z h
    have zl : z.1 ≠ l := fun q => by
      rw [q, p.1] at e
      cases e
    rw [upd_ne zl, upd_ne (ne_of_none e nu)]
    exact e
  · rw [List.mem_singleton.mp h, upd_ne ul, upd_same]
theorem enumW_take {f : Nat → Wo} {ws : List Str} {i : Nat} {x : Str} (h : ws[i]? = some x) : (enumW f ws).take (i + 1) = (enumW f ws).take i ++ [(x, f i)] := by
  rw [List.take_add_one]
  unfold enumW
  rw [List.getElem?_map, List.getElem?_zipIdx, h]
  simp
theorem enumW_all (f : Nat → Wo) (ws : List Str) : (enumW f ws).take ws.length = enumW f ws := by
  rw [List.take_of_length_le]
  unfold enumW
  rw [List.length_map, List.length_zipIdx]
  exact Nat.le_refl _
def spValued : Sp := fun vs H Q _ => ∃ (t o te sc : Addr) (ones tens : List Str) (hun : Str) (scales : List Str), vs = [.ref t] ∧ TabAt H t ones tens hun scales o te sc ∧ ones.length = 20 ∧ tens.length = 8 ∧ scales.length ≤ 21 ∧
  ∀ l zs H', H l = none → Same H H' → PrsAt H' l zs → zs.map (·.2) = (voc ones tens hun scales).filterMap sI → Q (.ref l) H'
section
variable {P : Program} {w : World} {K : PySem.W.Frag} {mg : Str → Option Value} {base : Heap}
end
end LB
set_option Elab.async false
set_option linter.all false
set_option maxRecDepth 100000
set_option maxHeartbeats 4000000
/-! Orders compared: all that comparisons of names can tell. -/
namespace LB
open PySem L2 Wk
open Bg (Bg Wo)
section
variable {ones tens : List Str} {hun : Str} {scales : List Str} {ws : List (Str × Wo)}
def cutF (lim : Int → Bool) (zw : Str) (e : Str × Int) : Option Int := if lim e.2 && WkI.ltS e.1 zw then some e.2 else none
theorem part_fm (V : Voc ones tens hun scales ws) {z : Wo} {zw : Str} {notz : Wo → Bool} {o : Wo → Option Int} {lim : Int → Bool} (hz : (zw, z) ∈ ws) (n1 : notz z = false) (n2 : ∀ x, x ≠ z → notz x = true)
    (key : ∀ x ∈ Bg.all scales.length, x ≠ z → (o3 x).bind (fun v => if lim v then some v else none) = o x) :
    (ws.filterMap sI).filterMap (cutF lim zw) = ((ws.map (·.2)).takeWhile notz).filterMap o := by
  obtain ⟨pre, post, e⟩ := List.append_of_mem hz
  have asc := V.asc
  unfold ascW at asc
  rw [e, List.pairwise_append] at asc
  obtain ⟨a1, a2, a3⟩ := asc
  have a2 := (List.pairwise_cons.mp a2).1
  have lo : ∀ f ∈ pre, WkI.ltS f.1 zw = true := fun f hf => a3 f hf (zw, z) List.mem_cons_self
  have ne : ∀ f ∈ pre, f.2 ≠ z := by
    intro f hf q
    have m1 := (V.word (e ▸ List.mem_append_left _ hf : f ∈ ws)).1
    have m2 := (V.word hz).1
    rw [q] at m1
    have h := lo f hf
    rw [m1, ← m2] at h
    simp only at h
    rw [ltS_irrefl] at h
    cases h
  have tw : (ws.map (·.2)).takeWhile notz = pre.map (·.2) := by
    rw [e, List.map_append, List.map_cons, List.takeWhile_append_of_pos (fun x hx => by
      obtain ⟨f, hf, rfl⟩ := List.mem_map.mp hx
      exact n2 _ (ne f hf)), List.takeWhile_cons_of_neg (by simp [n1]), List.append_nil]
  rw [tw, List.filterMap_filterMap, List.filterMap_map, e, List.filterMap_append]
  have p2 : ((zw, z) :: post).filterMap (fun x => (sI x).bind (cutF lim zw)) = [] := by
    refine List.filterMap_eq_nil_iff.mpr fun f hf => ?_
    have nl : WkI.ltS f.1 zw = false := by
      rcases List.mem_cons.mp hf with rfl | hf
      · exact ltS_irrefl _
      · exact ltS_asym (a2 f hf)
    unfold sI cutF
    cases o3 f.2 with
    | none => rfl
    | some v =>
      show (if (lim v && WkI.ltS f.1 zw) = true then some v else none) = none
      rw [nl, Bool.and_false, if_neg Bool.false_ne_true]
  rw [p2, List.append_nil]
  have go : ∀ l : List (Str × Wo), (∀ f ∈ l, f ∈ pre) → l.filterMap (fun x => (sI x).bind (cutF lim zw)) = l.filterMap (o ∘ fun x => x.2) := by
    intro l
    induction l with
    | nil => intro _; rfl
    | cons f l ih =>
      intro h
      rw [List.filterMap_cons, List.filterMap_cons, ih fun y hy => h y (List.mem_cons_of_mem _ hy)]
      have hf := h f List.mem_cons_self
      have k := key f.2 (V.word (e ▸ List.mem_append_left _ hf : f ∈ ws)).2 (ne f hf)
      have q : (sI f).bind (cutF lim zw) = (o ∘ fun x => x.2) f := by
        show _ = o f.2
        rw [← k]
        unfold sI cutF
        cases o3 f.2 with
        | none => rfl
        | some v =>
          show (if (lim v && WkI.ltS f.1 zw) = true then some v else none) = _
          rw [lo f hf, Bool.and_true]
          rfl
      rw [q]
  exact go pre fun f hf => hf
theorem early_fm (V : Voc ones tens hun scales ws) (hz : (wd ones tens hun scales (.low 0), Wo.low 0) ∈ ws) : (ws.filterMap sI).filterMap (cutF (fun v => decide (v < 100)) (wd ones tens hun scales (.low 0))) = earlyX (ws.map (·.2)) := by
  refine part_fm V hz rfl (fun x hx => ?_) (fun x hx nz => ?_)
  · cases x with
    | low n =>
      have : n ≠ 0 := fun q => hx (by rw [q])
      simp [notZ, this]
    | hun => rfl
    | sc i => rfl
  · rcases all_cases hx with rfl | ⟨k, k0, k1, rfl⟩ | ⟨i, hi, rfl⟩
    · rfl
    · have : k ≠ 0 := fun q => nz (by rw [q])
      unfold o3 o0
      simp only
      rw [if_neg this]
      show (if decide (k < 100) = true then some k else none) = _
      rw [if_pos (decide_eq_true k1)]
    · have := W_ge i
      show (if decide (Bg.W (i + 1) < 100) = true then some (Bg.W (i + 1)) else none) = none
      rw [if_neg (by simp; omega)]
theorem late_fm (V : Voc ones tens hun scales ws) (hz : (hun, Wo.hun) ∈ ws) : (ws.filterMap sI).filterMap (cutF (fun v => decide (100 < v)) hun) = lateX (ws.map (·.2)) := by
  refine part_fm V hz rfl (fun x hx => ?_) (fun x hx nz => ?_)
  · cases x with
    | low n => rfl
    | hun => exact absurd rfl hx
    | sc i => rfl
  · rcases all_cases hx with rfl | ⟨k, k0, k1, rfl⟩ | ⟨i, hi, rfl⟩
    · exact absurd rfl nz
    · unfold o3 o1
      simp only
      by_cases c : k = 0
      · rw [if_pos c]
        rfl
      · rw [if_neg c]
        show (if decide (100 < k) = true then some k else none) = _
        rw [if_neg (by simp; omega)]
    · have := W_ge i
      show (if decide (100 < Bg.W (i + 1)) = true then some (Bg.W (i + 1)) else none) = some (Bg.W (i + 1))
      rw [if_pos (decide_eq_true (by omega))]
theorem all_fm : (ws.filterMap sI).map (·.2) = (ws.map (·.2)).filterMap o3 := by
  rw [List.map_filterMap, List.filterMap_map]
  refine congrArg (fun f => ws.filterMap f) (funext fun e => ?_)
  show (sI e).map (·.2) = o3 e.2
  unfold sI
  cases o3 e.2 <;> rfl
end
theorem ix_listE {X : Cx} {K : PySem.W.Frag} (h : X.K = K) : IxR X (rIxL K) := by
  rw [← h]
  exact ix_list
theorem ix_tupK {X : Cx} {K : PySem.W.Frag} (h : X.K = K) : IxR X (rIxT K) := by
  rw [← h]
  exact ix_tup
def spShape : Sp := fun vs H Q _ => ∃ (t o te sc : Addr) (ones tens : List Str) (hun : Str) (scales : List Str) (ws : List (Str × Wo)), vs = [.ref t] ∧ TabAt H t ones tens hun scales o te sc ∧ Voc ones tens hun scales ws ∧ scales.length ≤ 21 ∧
  ∀ (S E L M : Addr) (es ls : List Int) H', H M = none → Same H H' → H' M = some (.lst [.ref S, .ref E, .ref L]) → H' S = some (.lst (((ws.map (·.2)).filterMap o3).map V.int)) → H' E = some (.lst (es.map V.int)) → H' L = some (.lst (ls.map V.int)) →
    es.Perm (earlyX (ws.map (·.2))) → es.Pairwise (· ≤ ·) → ls.Perm (lateX (ws.map (·.2))) → ls.Pairwise (· ≤ ·) → Q (.ref M) H'
section
variable {P : Program} {w : World} {K : PySem.W.Frag} {mg : Str → Option Value} {base : Heap}
end
end LB
set_option Elab.async false
set_option linter.all false
set_option maxRecDepth 100000
set_option maxHeartbeats 8000000
/-! What find comes to: the order of the words. -/
namespace LB
open PySem L2 Wk
open Bg (Bg Wo)
theorem fmap_congr {α β : Type} {f g : α → Option β} : ∀ {l : List α}, (∀ x ∈ l, f x = g x) → l.filterMap f = l.filterMap g
  | [], _ => rfl
  | x :: l, h => by
    rw [List.filterMap_cons, List.filterMap_cons, h x List.mem_cons_self, fmap_congr fun y hy => h y (List.mem_cons_of_mem _ hy)]
theorem bh_inj {m n : Int} (m0 : 0 < m) (n0 : 0 < n) (h : bhF m = bhF n) : m = n := by
  unfold bhF at h
  split at h <;> split at h <;> omega
theorem W_1000 (i : Nat) : 1000 ≤ Bg.W (i + 1) := by
  have := Bg.W_pos i
  rw [Bg.W_succ]
  omega
theorem o3_bh {k : Nat} {x : Wo} (hx : x ∈ Bg.all k) : (o3 x).map bhF = o2 x := by
  rcases all_cases hx with rfl | ⟨j, j0, j1, rfl⟩ | ⟨i, hi, rfl⟩
  · rfl
  · unfold o3 o2
    by_cases c : j = 0
    · simp [c]
    · simp only [if_neg c]
      show some (bhF j) = _
      unfold bhF
      rw [if_pos (by omega)]
  · show some (bhF (Bg.W (i + 1))) = some (100 * Bg.W (i + 1))
    have := W_1000 i
    unfold bhF
    rw [if_neg (by omega)]
theorem all_num (k : Nat) : (Bg.all k).filterMap o3 = numF k := by
  have h1 : (Bg.lows ++ Bg.tens).filterMap o3 = ((List.range 19).map fun i : Nat => (1 : Int) + (i : Int)) ++ ((List.range 8).map fun i : Nat => (20 : Int) + (i : Int) * 10) := by decide +kernel
  unfold Bg.all numF
  show (Bg.lows ++ (Bg.tens ++ Bg.scs k)).filterMap o3 = _
  rw [← List.append_assoc, List.filterMap_append, h1]
  congr 1
  unfold Bg.scs
  rw [List.filterMap_map]
  exact congrFun (List.filterMap_eq_map' (f := fun i => Bg.W (i + 1))) _
section
variable {ones tens : List Str} {hun : Str} {scales : List Str} {ws : List (Str × Wo)}
/-- one number stands before another: by their words -/
def befB (ones tens : List Str) (hun : Str) (scales : List Str) (m n : Int) : Bool := ltL (nmL ones tens hun scales (bhF m)) (nmL ones tens hun scales (bhF n))
def wordsF (ws : List (Str × Wo)) : List Int := (ws.map (·.2)).filterMap o3
theorem words_perm (V : Voc ones tens hun scales ws) : (wordsF ws).Perm (numF scales.length) := by
  unfold wordsF
  rw [← all_num]
  exact V.all.filterMap _
theorem words_bh (V : Voc ones tens hun scales ws) : (wordsF ws).map bhF = numsOf ⟨0, 100, 100, scales.length + 1⟩ ws := by
  unfold wordsF numsOf
  rw [List.map_filterMap]
  refine fmap_congr fun x hx => ?_
  have xa : x ∈ Bg.all scales.length := V.all.mem_iff.mp hx
  have := own_b2 xa
  unfold ownO at this
  rw [this]
  exact o3_bh xa
theorem words_pw (V : Voc ones tens hun scales ws) : (wordsF ws).Pairwise fun m n => befB ones tens hun scales m n = true := by
  have h := nums_pw V (b := ⟨0, 100, 100, scales.length + 1⟩) (by unfold bgs; simp)
  rw [← words_bh V, List.pairwise_map] at h
  exact h
theorem bef_turn {o : List Int} {x : Int} : ∀ {o : List Int}, o.Pairwise (fun m n => befB ones tens hun scales m n = true) → ∃ t, t ≤ o.length ∧ (∀ i y, i < t → o[i]? = some y → befB ones tens hun scales y x = true) ∧ ∀ i y, t ≤ i → o[i]? = some y → befB ones tens hun scales y x = false
  | [], _ => ⟨0, Nat.le_refl _, fun i y h => absurd h (Nat.not_lt_zero _), fun i y _ h => by cases h⟩
  | m :: r, h => by
    obtain ⟨h1, h2⟩ := List.pairwise_cons.mp h
    cases c : befB ones tens hun scales m x with
    | true =>
      obtain ⟨t, t1, t2, t3⟩ := bef_turn (o := o) (x := x) h2
      refine ⟨t + 1, Nat.succ_le_succ t1, fun i y hi hy => ?_, fun i y hi hy => ?_⟩
      · cases i with
        | zero =>
          cases hy
          exact c
        | succ i => exact t2 i y (by omega) hy
      · cases i with
        | zero => omega
        | succ i => exact t3 i y (by omega) hy
    | false =>
      refine ⟨0, Nat.zero_le _, fun i y h => absurd h (Nat.not_lt_zero _), fun i y _ hy => ?_⟩
      rcases List.mem_cons.mp (List.mem_of_getElem? hy) with rfl | hm
      · exact c
      · cases d : befB ones tens hun scales y x with
        | false => rfl
        | true =>
          have := ltL_trans (h1 y hm) d
          exact absurd (show befB ones tens hun scales m x = true from this) (by rw [c]; exact Bool.false_ne_true)
theorem spot_bh {o : List Int} {x : Int} {t : Nat} (t1 : t ≤ o.length) (t2 : ∀ i y, i < t → o[i]? = some y → befB ones tens hun scales y x = true) (t3 : ∀ i y, t ≤ i → o[i]? = some y → befB ones tens hun scales y x = false) : (spotN ones tens hun scales (o.map bhF) (bhF x)).1 = t := by
  have get : ∀ {i : Nat}, i < o.length → ∃ y, o[i]? = some y ∧ befF ones tens hun scales (o.map bhF) (bhF x) i = befB ones tens hun scales y x := fun {i} hi => by
    refine ⟨o[i], List.getElem?_eq_getElem hi, ?_⟩
    unfold befF befB
    rw [List.getD_eq_getElem?_getD, List.getElem?_map, List.getElem?_eq_getElem hi]
    rfl
  unfold spotN
  rw [List.length_map]
  refine spot_turn _ _ _ (Nat.le_refl _) (Nat.zero_le _) t1 (fun i hi => ?_) fun i h1 h2 => ?_
  · obtain ⟨y, hy, e⟩ := get (show i < o.length by omega)
    rw [e]
    exact t2 i y hi hy
  · obtain ⟨y, hy, e⟩ := get h2
    rw [e]
    exact t3 i y h1 hy
/-- one more in its place -/
theorem ins_sorted {o : List Int} {x : Int} (tot : ∀ m ∈ o, befB ones tens hun scales m x = false → befB ones tens hun scales x m = true) (h : o.Pairwise fun m n => befB ones tens hun scales m n = true) :
    (insF (spotN ones tens hun scales (o.map bhF) (bhF x)).1 x o).Pairwise fun m n => befB ones tens hun scales m n = true := by
  obtain ⟨t, t1, t2, t3⟩ := bef_turn (o := o) (x := x) h
  rw [spot_bh t1 t2 t3]
  have hd := h
  rw [← List.take_append_drop t o] at hd
  obtain ⟨p1, p2, p3⟩ := List.pairwise_append.mp hd
  have left : ∀ m ∈ o.take t, befB ones tens hun scales m x = true := fun m hm => by
    obtain ⟨i, hi⟩ := List.getElem?_of_mem hm
    have il : i < t := by
      have := (List.getElem?_eq_some_iff.mp hi).1
      rw [List.length_take] at this
      omega
    rw [List.getElem?_take, if_pos il] at hi
    exact t2 i m il hi
  have right : ∀ m ∈ o.drop t, befB ones tens hun scales x m = true := fun m hm => by
    obtain ⟨i, hi⟩ := List.getElem?_of_mem hm
    rw [List.getElem?_drop] at hi
    exact tot m (List.mem_of_mem_drop hm) (t3 _ m (Nat.le_add_right t i) hi)
  unfold insF
  rw [List.append_assoc]
  refine List.pairwise_append.mpr ⟨p1, List.pairwise_cons.mpr ⟨right, p2⟩, fun m hm y hy => ?_⟩
  rcases List.mem_cons.mp hy with rfl | hy
  · exact left m hm
  · exact p3 m hm y hy
theorem bef_or (V : Voc ones tens hun scales ws) {m n : Int} (hm : m ∈ numF scales.length) (hn : n ∈ numF scales.length) (ne : m ≠ n) (h : befB ones tens hun scales m n = false) : befB ones tens hun scales n m = true := by
  obtain ⟨m0, _, a0, a1⟩ := numF_in hm
  obtain ⟨n0, _, b0, b1⟩ := numF_in hn
  exact less_or V a0 a1 b0 b1 (fun e => ne (bh_inj m0 n0 e)) h
theorem num_nd (k : Nat) (V : Voc ones tens hun scales ws) (hk : k = scales.length) : (numF k).Nodup := by
  rw [hk]
  refine (words_perm V).nodup_iff.mp ((words_pw V).imp fun {a b} h e => ?_)
  rw [e] at h
  unfold befB at h
  rw [ltL_irrefl] at h
  cases h
theorem ord_sorted (V : Voc ones tens hun scales ws) : ∀ (l : List Int) (s : List Int × Nat), (∀ n ∈ l, n ∈ numF scales.length) → (∀ n ∈ s.1, n ∈ numF scales.length) → (l ++ s.1).Nodup → s.1.Pairwise (fun m n => befB ones tens hun scales m n = true) → (l.foldl (stepF ones tens hun scales) s).1.Pairwise fun m n => befB ones tens hun scales m n = true
  | [], s, _, _, _, h => h
  | n :: l, s, hl, hs, nd, h => by
    rw [List.foldl_cons]
    have pm := ins_perm (spotN ones tens hun scales (s.1.map bhF) (bhF n)).1 n s.1
    obtain ⟨n1, n2⟩ := List.nodup_cons.mp (show (n :: (l ++ s.1)).Nodup from nd)
    refine ord_sorted V l _ (fun m hm => hl m (List.mem_cons_of_mem _ hm)) (fun m hm => ?_) ?_ ?_
    · rcases List.mem_cons.mp (pm.mem_iff.mp hm) with rfl | hm
      · exact hl _ List.mem_cons_self
      · exact hs m hm
    · have e : (l ++ insF (spotN ones tens hun scales (s.1.map bhF) (bhF n)).1 n s.1).Perm (n :: (l ++ s.1)) := (pm.append_left l).trans List.perm_middle
      exact e.nodup_iff.mpr nd
    · refine ins_sorted (fun m hm hf => bef_or V (hs m hm) (hl n List.mem_cons_self) (fun e => n1 ?_) hf) h
      rw [← e]
      exact List.mem_append_right _ hm
/-- THE ORDER FOUND IS THAT OF THE WORDS -/
theorem ord_words (V : Voc ones tens hun scales ws) : (ordF ones tens hun scales (numF scales.length)).1 = wordsF ws := by
  have srt := ord_sorted V (numF scales.length) ([], 0) (fun n h => h) (fun n h => absurd h (by simp)) (by rw [List.append_nil]; exact num_nd _ V rfl) List.Pairwise.nil
  have pm := (ord_perm ones tens hun scales (numF scales.length)).trans (words_perm V).symm
  refine List.Perm.eq_of_pairwise (le := fun m n => befB ones tens hun scales m n = true) (fun m n _ _ h1 h2 => ?_) srt (words_pw V) pm
  unfold befB at h1 h2
  rw [ltL_asym h1] at h2
  cases h2
end
end LB
set_option Elab.async false
set_option linter.all false
set_option maxRecDepth 100000
set_option maxHeartbeats 8000000
/-! What find comes to: hundred, 0, and how often it asks. -/
namespace LB
open PySem L2 Wk
open Bg (Bg Wo)
theorem filter_fmap {p : Int → Bool} {f : Wo → Option Int} : ∀ {l : List Wo}, (l.filterMap f).filter p = l.filterMap fun x => (f x).filter p
  | [] => rfl
  | x :: l => by
    rw [List.filterMap_cons, List.filterMap_cons]
    cases h : f x with
    | none =>
      show (l.filterMap f).filter p = l.filterMap _
      exact filter_fmap
    | some v =>
      show ((v :: l.filterMap f).filter p) = _
      rw [List.filter_cons]
      cases c : p v with
      | true =>
        rw [if_pos rfl]
        have : (some v).filter p = some v := by simp [Option.filter, c]
        rw [this]
        show v :: _ = v :: _
        rw [filter_fmap]
      | false =>
        rw [if_neg Bool.false_ne_true]
        have : (some v).filter p = none := by simp [Option.filter, c]
        rw [this]
        exact filter_fmap
/-- cut at the one place where a test fails -/
theorem cut_one {p : Wo → Bool} {y : Wo} (hy : ∀ x, p x = false ↔ x = y) : ∀ {ws : List (Str × Wo)}, y ∈ ws.map (·.2) → ∃ (A : List (Str × Wo)) (h : Str) (B : List (Str × Wo)), ws = A ++ (h, y) :: B ∧ (ws.map (·.2)).takeWhile p = A.map (·.2) ∧ ∀ e ∈ A, e.2 ≠ y
  | [], h => absurd h (by simp)
  | e :: ws, h => by
    by_cases c : e.2 = y
    · refine ⟨[], e.1, ws, ?_, ?_, fun e he => absurd he (by simp)⟩
      · rw [← c]
        rfl
      · rw [List.map_cons, List.takeWhile_cons, if_neg (by rw [(hy e.2).mpr c]; exact Bool.false_ne_true)]
        rfl
    · have m : y ∈ ws.map (·.2) := by
        rcases List.mem_cons.mp h with e1 | h
        · exact absurd e1.symm c
        · exact h
      obtain ⟨A, w, B, h1, h2, h3⟩ := cut_one hy m
      refine ⟨e :: A, w, B, by rw [h1]; rfl, ?_, fun f hf => ?_⟩
      · have : p e.2 = true := by
          cases q : p e.2 with
          | true => rfl
          | false => exact absurd ((hy e.2).mp q) c
        rw [List.map_cons, List.takeWhile_cons, if_pos this, h2]
        rfl
      · rcases List.mem_cons.mp hf with rfl | hf
        · exact c
        · exact h3 f hf
section
variable {ones tens : List Str} {hun : Str} {scales : List Str} {ws : List (Str × Wo)}
/-- the turn among the numbers of some words, asked with the number of one word -/
theorem spot_word (V : Voc ones tens hun scales ws) {b : Bg} (hb : b ∈ bgs scales.length) {f : Wo → Option Int} {A B : List (Str × Wo)} {h : Str} {y : Wo} {v : Int} (hw : ws = A ++ (h, y) :: B) (hy : ownO b y = some v) (fy : f y = none)
    (hf : ∀ e ∈ ws, ∀ n, f e.2 = some n → ownO b e.2 = some n) : (spotN ones tens hun scales ((ws.map (·.2)).filterMap f) v).1 = ((A.map (·.2)).filterMap f).length ∧ (ws.map (·.2)).filterMap f = (A.map (·.2)).filterMap f ++ (B.map (·.2)).filterMap f := by
  have sp : (ws.map (·.2)).filterMap f = (A.map (·.2)).filterMap f ++ (B.map (·.2)).filterMap f := by
    rw [hw, List.map_append, List.map_cons, List.filterMap_append, List.filterMap_cons_none fy]
  refine ⟨?_, sp⟩
  have asc := V.asc
  unfold ascW at asc
  rw [hw] at asc
  obtain ⟨_, a2, a3⟩ := List.pairwise_append.mp asc
  obtain ⟨a4, _⟩ := List.pairwise_cons.mp a2
  have my : (h, y) ∈ ws := by
    rw [hw]
    exact List.mem_append_right _ List.mem_cons_self
  obtain ⟨_, _, ey⟩ := nm_own V hb my hy
  have val : ∀ {L : List (Str × Wo)} {n : Int}, (∀ e ∈ L, e ∈ ws) → n ∈ (L.map (·.2)).filterMap f → ∃ e ∈ L, ltL (nmL ones tens hun scales n) (nmL ones tens hun scales v) = WkI.ltS e.1 h := fun {L n} sub hn => by
    obtain ⟨x, hx, e1⟩ := List.mem_filterMap.mp hn
    obtain ⟨e, he, rfl⟩ := List.mem_map.mp hx
    obtain ⟨_, _, en⟩ := nm_own V hb (sub e he) (hf e (sub e he) n e1)
    refine ⟨e, he, ?_⟩
    rw [en, ey, ltL_pre]
  have inA : ∀ e ∈ A, e ∈ ws := fun e he => by
    rw [hw]
    exact List.mem_append_left _ he
  have inB : ∀ e ∈ B, e ∈ ws := fun e he => by
    rw [hw]
    exact List.mem_append_right _ (List.mem_cons_of_mem _ he)
  unfold spotN
  rw [sp]
  obtain ⟨LA, hLA⟩ : ∃ l, l = (A.map (·.2)).filterMap f := ⟨_, rfl⟩
  obtain ⟨LB, hLB⟩ : ∃ l, l = (B.map (·.2)).filterMap f := ⟨_, rfl⟩
  rw [← hLA, ← hLB]
  refine spot_turn _ _ _ (Nat.le_refl _) (Nat.zero_le _) (by rw [List.length_append]; exact Nat.le_add_right _ _) (fun i hi => ?_) fun i h1 h2 => ?_
  · have g : (LA ++ LB).getD i 0 = LA[i] := by
      rw [List.getD_eq_getElem?_getD, List.getElem?_append_left hi, List.getElem?_eq_getElem hi]
      rfl
    unfold befF
    rw [g]
    obtain ⟨e, he, q⟩ := val (L := A) inA (show LA[i] ∈ _ by rw [← hLA]; exact List.getElem_mem hi)
    rw [q]
    exact a3 e he (h, y) List.mem_cons_self
  · rw [List.length_append] at h2
    have hi : i - LA.length < LB.length := by omega
    have g : (LA ++ LB).getD i 0 = LB[i - LA.length] := by
      rw [List.getD_eq_getElem?_getD, List.getElem?_append_right h1, List.getElem?_eq_getElem hi]
      rfl
    unfold befF
    rw [g]
    obtain ⟨e, he, q⟩ := val (L := B) inB (show LB[i - LA.length] ∈ _ by rw [← hLB]; exact List.getElem_mem hi)
    rw [q]
    exact ltS_asym (a4 e he)
/-- HUNDRED: as many scale words as come before it -/
theorem huns_late (V : Voc ones tens hun scales ws) : hunsF ones tens hun scales = (lateX (ws.map (·.2))).length := by
  unfold hunsF hunF
  rw [ord_words V]
  have mh : Wo.hun ∈ ws.map (·.2) := V.all.mem_iff.mpr List.mem_cons_self
  obtain ⟨A, h, B, hw, ht, hA⟩ := cut_one (p := notH) (y := .hun) (fun x => by cases x <;> simp [notH]) mh
  unfold wordsF
  rw [filter_fmap]
  obtain ⟨q, _⟩ := spot_word V (b := ⟨0, 1, 1, scales.length + 1⟩) (by unfold bgs; simp) (f := fun x => (o3 x).filter fun n => decide (1000 ≤ n)) (v := 100) hw (by rw [own_b1 List.mem_cons_self]; rfl) rfl fun e he n hn => by
    obtain ⟨_, ea⟩ := V.word he
    rw [own_b1 ea]
    rcases all_cases ea with e2 | ⟨j, j0, j1, e2⟩ | ⟨i, hi, e2⟩ <;> rw [e2] at hn ⊢
    · cases hn
    · exfalso
      unfold o3 at hn
      by_cases c : j = 0
      · simp [c] at hn
      · simp only [if_neg c] at hn
        simp [Option.filter] at hn
        omega
    · simp only [o3] at hn
      have w := W_1000 i
      simp [Option.filter, w] at hn
      rw [← hn]
      rfl
  rw [q]
  unfold lateX
  rw [ht]
  congr 1
  refine fmap_congr fun x hx => ?_
  obtain ⟨e, he, rfl⟩ := List.mem_map.mp hx
  have ea : e.2 ∈ Bg.all scales.length := (V.word (by rw [hw]; exact List.mem_append_left _ he)).2
  have ne := hA e he
  rcases all_cases ea with e2 | ⟨j, j0, j1, e2⟩ | ⟨i, hi, e2⟩ <;> rw [e2]
  · exact absurd e2 ne
  · unfold o3 o1
    by_cases c : j = 0
    · simp [c]
    · simp only [if_neg c]
      simp [Option.filter]
      omega
  · have w := W_1000 i
    simp [o3, o1, Option.filter, w]
end
end LB
set_option Elab.async false
set_option linter.all false
set_option maxRecDepth 100000
set_option maxHeartbeats 8000000
/-! What find comes to: 0, and how often it asks. -/
namespace LB
open PySem L2 Wk
open Bg (Bg Wo)
theorem same_cut {r : Int} : ∀ {A B E R : List Int}, A ++ r :: B = E ++ r :: R → r ∉ A → r ∉ E → A = E
  | [], _, [], _, _, _, _ => rfl
  | [], _, e :: E, _, h, _, h2 => by
    have := (List.cons.inj h).1
    exact absurd (by rw [this]; exact List.mem_cons_self) h2
  | a :: A, _, [], _, h, h1, _ => by
    have := (List.cons.inj h).1
    exact absurd (by rw [← this]; exact List.mem_cons_self) h1
  | a :: A, B, e :: E, R, h, h1, h2 => by
    obtain ⟨x, y⟩ := List.cons.inj h
    rw [x, same_cut y (fun z => h1 (List.mem_cons_of_mem _ z)) fun z => h2 (List.mem_cons_of_mem _ z)]
/-- a list cut ahead of a number that a test keeps -/
theorem cut_filter {p : Int → Bool} {O E R : List Int} {pos : Nat} (nd : O.Nodup) (h : O.filter p = E ++ R) (hp : pos = if E.length < (O.filter p).length then O.idxOf ((O.filter p).getD E.length 0) else O.length) : (O.take pos).filter p = E := by
  cases R with
  | nil =>
    rw [List.append_nil] at h
    rw [h, if_neg (Nat.lt_irrefl _)] at hp
    rw [hp, List.take_length]
    exact h
  | cons r R =>
    have g : (O.filter p).getD E.length 0 = r := by
      rw [h, List.getD_eq_getElem?_getD, List.getElem?_append_right (Nat.le_refl _), Nat.sub_self]
      rfl
    have lt : E.length < (O.filter p).length := by
      rw [h, List.length_append, List.length_cons]
      omega
    rw [if_pos lt, g] at hp
    have rm : r ∈ O := (List.mem_filter.mp (show r ∈ O.filter p by rw [h]; exact List.mem_append_right _ List.mem_cons_self)).1
    have pr : p r = true := (List.mem_filter.mp (show r ∈ O.filter p by rw [h]; exact List.mem_append_right _ List.mem_cons_self)).2
    have il : O.idxOf r < O.length := List.idxOf_lt_length_iff.mpr rm
    have sp : O = O.take pos ++ r :: O.drop (pos + 1) := by
      have := List.take_append_drop pos O
      rw [List.drop_eq_getElem_cons (by rw [hp]; exact il)] at this
      have e : O[pos]'(by rw [hp]; exact il) = r := by
        have := List.getElem_idxOf il
        simp only [hp]
        exact this
      rw [e] at this
      exact this.symm
    have f := congrArg (List.filter p) sp
    rw [List.filter_append, List.filter_cons, if_pos pr, h] at f
    have nd2 := nd
    rw [sp] at nd2
    have n1 : r ∉ O.take pos := fun m => (List.nodup_append.mp nd2).2.2 r m r List.mem_cons_self rfl
    have n2 : r ∉ E := fun m => by
      have nf := nd.filter p
      rw [h] at nf
      exact (List.nodup_append.mp nf).2.2 r m r List.mem_cons_self rfl
    exact same_cut f.symm (fun m => n1 (List.mem_filter.mp m).1) n2
section
variable {ones tens : List Str} {hun : Str} {scales : List Str} {ws : List (Str × Wo)}
theorem zer_early (V : Voc ones tens hun scales ws) : (zerF ones tens hun scales (wordsF ws)).1 = (earlyX (ws.map (·.2))).length ∧ ∃ R, plainF (wordsF ws) = earlyX (ws.map (·.2)) ++ R := by
  have m0 : Wo.low 0 ∈ ws.map (·.2) := V.all.mem_iff.mpr (List.mem_cons_of_mem _ (List.mem_append_left _ (List.mem_map.mpr ⟨0, by simp, rfl⟩)))
  obtain ⟨A, h, B, hw, ht, hA⟩ := cut_one (p := notZ) (y := .low 0) (fun x => by cases x <;> simp [notZ]) m0
  have a0 : Wo.low 0 ∈ Bg.all scales.length := V.all.mem_iff.mp m0
  obtain ⟨q, sp⟩ := spot_word V (b := Bg.start scales.length) (by unfold bgs; simp) (f := fun x => (o3 x).filter fun n => decide (n < 100)) (v := 0) hw (by rw [own_b0 a0]; rfl) rfl fun e he n hn => by
    obtain ⟨_, ea⟩ := V.word he
    rw [own_b0 ea]
    rcases all_cases ea with e2 | ⟨j, j0, j1, e2⟩ | ⟨i, hi, e2⟩ <;> rw [e2] at hn ⊢
    · cases hn
    · unfold o3 at hn
      by_cases c : j = 0
      · simp [c] at hn
      · simp only [if_neg c] at hn
        simp [Option.filter, j1] at hn
        rw [← hn]
        rfl
    · exfalso
      simp only [o3] at hn
      have w := W_1000 i
      simp [Option.filter] at hn
      omega
  have eA : (A.map (·.2)).filterMap (fun x => (o3 x).filter fun n => decide (n < 100)) = earlyX (ws.map (·.2)) := by
    unfold earlyX
    rw [ht]
    refine fmap_congr fun x hx => ?_
    obtain ⟨e, he, rfl⟩ := List.mem_map.mp hx
    have ea : e.2 ∈ Bg.all scales.length := (V.word (by rw [hw]; exact List.mem_append_left _ he)).2
    have ne := hA e he
    rcases all_cases ea with e2 | ⟨j, j0, j1, e2⟩ | ⟨i, hi, e2⟩
    · rw [e2]
      rfl
    · have c : j ≠ 0 := fun z => ne (by rw [e2, z])
      rw [e2]
      unfold o3 o0
      simp only [if_neg c]
      simp [Option.filter, j1]
    · have w := W_1000 i
      rw [e2]
      simp [o3, o0, Option.filter]
      omega
  unfold zerF plainF wordsF
  rw [filter_fmap]
  exact ⟨by rw [q, eA], _, by rw [sp, eA]⟩
theorem words_len (V : Voc ones tens hun scales ws) : (wordsF ws).length = 27 + scales.length := by rw [(words_perm V).length_eq, numF_len]
theorem words_nd (V : Voc ones tens hun scales ws) : (wordsF ws).Nodup := (words_perm V).nodup_iff.mpr (num_nd _ V rfl)
/-- WHAT STANDS AHEAD OF 0 -/
theorem out_early (V : Voc ones tens hun scales ws) : ((wordsF ws).take (placeF ones tens hun scales (wordsF ws))).filter (fun n => decide (n < 100)) = earlyX (ws.map (·.2)) := by
  obtain ⟨z1, R, z2⟩ := zer_early V
  refine cut_filter (words_nd V) z2 ?_
  unfold placeF
  rw [z1]
  rfl
theorem place_le (o : List Int) : placeF ones tens hun scales o ≤ o.length := by
  unfold placeF
  split
  · exact List.idxOf_le_length
  · exact Nat.le_refl _
theorem out_is (V : Voc ones tens hun scales ws) : outF ones tens hun scales = (wordsF ws).take (placeF ones tens hun scales (wordsF ws)) ++ 0 :: (wordsF ws).drop (placeF ones tens hun scales (wordsF ws)) := by
  unfold outF
  rw [ord_words V]
  unfold insF
  rw [List.append_assoc]
  rfl
theorem words_pos (V : Voc ones tens hun scales ws) : ∀ n ∈ wordsF ws, 0 < n ∧ n < Bg.W (scales.length + 1) := fun n hn => by
  have := numF_in ((words_perm V).mem_iff.mp hn)
  exact ⟨this.1, this.2.1⟩
/-- HOW OFTEN IT ASKS -/
theorem ask_bound (V : Voc ones tens hun scales ws) (l20 : scales.length ≤ 20) : 0 < askF ones tens hun scales ∧ askF ones tens hun scales ≤ 500 := by
  have few : ∀ (ns : List Int) (x : Int), ns.length < 64 → (spotN ones tens hun scales ns x).2 ≤ 6 := fun ns x h => spot_few 6 _ _ _ (by rw [Nat.sub_zero]; exact h)
  have ord : ∀ (l : List Int) (s : List Int × Nat), l.length + s.1.length < 64 → (l.foldl (stepF ones tens hun scales) s).2 ≤ s.2 + 6 * l.length := by
    intro l
    induction l with
    | nil =>
      intro s _
      exact Nat.le_refl _
    | cons n l ih =>
      intro s h
      rw [List.length_cons] at h
      rw [List.foldl_cons, List.length_cons]
      have q := few (s.1.map bhF) (bhF n) (by rw [List.length_map]; omega)
      have pm := (ins_perm (spotN ones tens hun scales (s.1.map bhF) (bhF n)).1 n s.1).length_eq
      have z := ih (stepF ones tens hun scales s n) (by
        show l.length + (insF _ n s.1).length < 64
        rw [pm, List.length_cons]
        omega)
      have e : (stepF ones tens hun scales s n).2 = s.2 + (spotN ones tens hun scales (s.1.map bhF) (bhF n)).2 := rfl
      rw [e] at z
      omega
  have wl := words_len V
  have c1 := ord (numF scales.length) ([], 0) (by rw [numF_len]; show _ + 0 < 64; omega)
  rw [numF_len] at c1
  have c1 : (ordF ones tens hun scales (numF scales.length)).2 ≤ 0 + 6 * (27 + scales.length) := c1
  have f1 := List.length_filter_le (fun n : Int => decide (1000 ≤ n)) (wordsF ws)
  have f2 := List.length_filter_le (fun n : Int => decide (n < 100)) (wordsF ws)
  have c2 : (hunF ones tens hun scales (wordsF ws)).2 ≤ 6 := few _ _ (by omega)
  have c3 : (zerF ones tens hun scales (wordsF ws)).2 ≤ 6 := few _ _ (by show (List.filter _ (wordsF ws)).length < 64; omega)
  have m1 : (1 : Int) ∈ wordsF ws := (words_perm V).mem_iff.mpr (List.mem_append_left _ (List.mem_append_left _ (List.mem_map.mpr ⟨0, by simp, rfl⟩)))
  have p1 : 0 < (plainF (wordsF ws)).length := List.length_pos_iff.mpr fun z => by
    have : (1 : Int) ∈ plainF (wordsF ws) := List.mem_filter.mpr ⟨m1, by decide⟩
    rw [z] at this
    cases this
  have c4 : 0 < (zerF ones tens hun scales (wordsF ws)).2 := spot_some p1 (by rw [Nat.sub_zero]; exact Nat.le_refl _)
  unfold askF
  rw [ord_words V]
  omega
end
end LB
set_option Elab.async false
set_option linter.all false
set_option maxRecDepth 100000
set_option maxHeartbeats 4000000
/-! Family D: a table, and what its words are not. -/
namespace LB
open PySem L2 Wk
/-- no word of a book is one of those that are put in later -/
def nearOk (x : Str) : Bool := decide (x.length ≤ 12) && (decide (x.length ≤ 5) || !(x.cps.toList.getLast? == some 97)) && !(x == ("zzzzzzzz" : Str)) && !(x == ("aaaaaaaa" : Str))
def spBookN : Sp := fun vs H Q _ => ∃ (p : Addr) (d s c : Int) (n : Nat), vs = [.ref p, .int (n : Int)] ∧ RngAtD H p d s c ∧ n ≤ 20 ∧ c < 2 ^ 28 ∧
  ∀ (t o te sc : Addr) (ones tens : List Str) (hun : Str) (scales : List Str) (d' c' : Int) (H' : Hp), NewTab H H' t o te sc ones tens hun scales → scales.length = n → (∀ x ∈ ones ++ (tens ++ hun :: scales), nearOk x = true) → RngAtD H' p d' s c' → c' ≤ c + 500 → (∀ q o, H q = some o → q ≠ p → H' q = some o) → Q (.ref t) H'
theorem poolN1 : ∀ x ∈ shN [97, 98] 5, nearOk x = true := by decide +kernel
theorem poolN2 : ∀ x ∈ shN [97, 98, 99] 4, nearOk x = true := by decide +kernel
theorem engN : ∀ x ∈ engO ++ (engT ++ ("hundred" : Str) :: engS), nearOk x = true := by decide +kernel
theorem eng_near (n : Nat) : ∀ x ∈ engO ++ (engT ++ ("hundred" : Str) :: engS.take n), nearOk x = true := fun x hx => engN x (by
  rcases List.mem_append.mp hx with h | h
  · exact List.mem_append_left _ h
  rcases List.mem_append.mp h with h | h
  · exact List.mem_append_right _ (List.mem_append_left _ h)
  rcases List.mem_cons.mp h with h | h
  · exact List.mem_append_right _ (List.mem_append_right _ (List.mem_cons.mpr (.inl h)))
  · exact List.mem_append_right _ (List.mem_append_right _ (List.mem_cons_of_mem _ (List.mem_of_mem_take h))))
theorem lng_near : ∀ y ∈ xyz, ∀ c ∈ [97, 98, 122], ∀ k ∈ [0, 1, 2, 3], nearOk (lng c k y) = true := by decide +kernel
theorem lngs_near {R ys : List Str} (l : Lngs R xyz) (h : ∀ x ∈ ys, x ∈ R) : ∀ x ∈ ys, nearOk x = true := fun x hx => by
  obtain ⟨i, hi⟩ := List.mem_iff_getElem?.mp (h x hx)
  have il := (List.getElem?_eq_some_iff.mp hi).1
  rw [l.len] at il
  obtain ⟨c, k, hc, hk, e⟩ := l.each i xyz[i] (List.getElem?_eq_getElem il)
  rw [hi] at e
  rw [Option.some.inj e]
  refine lng_near _ (List.getElem_mem il) c ?_ k ?_
  · rcases hc with rfl | rfl | rfl <;> decide
  · rcases (show k = 0 ∨ k = 1 ∨ k = 2 ∨ k = 3 by omega) with rfl | rfl | rfl | rfl <;> decide
section
variable {P : Program} {w : World} {K : PySem.W.Frag} {mg : Str → Option Value} {base : Heap}
theorem ok_bookN {f fD fE fS fL : Addr} {fd dD dE dS dL : FuncData} (F : Fun K "_law_book" "_law_book" sBook f fd) (D : Def1 P w K mg base "_law_draw" 1 fD dD ["pool", "many"] spDrawD) (En : Def1 P w K mg base "_law_english" 1 fE dE ["scales_here"] spEnglishW)
    (Sh : Def1 P w K mg base "_law_short" 1 fS dS ["signs", "most"] spShort) (Lo : Def1 P w K mg base "_law_longer" 2 fL dL ["pool", "word"] spLonger) (mS : mg "sorted" = none) (mT : mg "set" = none) (mR : mg "range" = none) (mL : mg "len" = none) :
    FnOk P w K mg base CX0 3 f fd ["pool", "scales_here"] spBookN := by
  refine F.ok scBook (fun vs H Q E h => ?_) (fun cdv A outer s H vs Q E hr h => ?_)
  · obtain ⟨p, d, s, c, n, rfl, _⟩ := h
    rfl
  · obtain ⟨p, d, sd, c, n, rfl, B, n20, c28, k⟩ := h
    have hr2 : Room 2 _ := hr
    have hr1 : Room 1 _ := hr2.mono (by decide)
    refine ⟨_, pss_cons (ps_par (i := 2) (j := 3) (by rfl) scBook.nd rfl rfl (by decide) rfl rfl (pa_cons (pe_call D.ok hr1 (by rfl) D.g D.k D.b .nil pass0 (pa_cons (pv 0) (pa_cons pe_int pa_nil))) (pa_cons (pe_op op_add pe_int (pv 1)) pa_nil)) (by rfl))
        (pss_mid (ps_if (PW.pt (pw_and (pt_cmpR op_eq (pv 2) pe_int (nomark _)) (pw_and1 (pt_cmpR op_lt (pv 1) pe_int (nomark _))))) (pss_one (ps_ret (pe_call En.ok hr1 (by rfl) En.g En.k En.b .nil pass0 (pa_cons (pv 1) pa_nil)))) pss_nil)
        (pss_mid (ps_set (i := 4) scBook.nd rfl (by first | exact .inl rfl | exact .inr rfl) (pe_ifExp (pt_cmpR op_lt (pv 2) pe_int (nomark _)) (pe_call Sh.ok hr1 (by rfl) Sh.g Sh.k Sh.b .nil pass0 (pa_cons pe_str (pa_cons pe_int pa_nil))) (pe_call Sh.ok hr1 (by rfl) Sh.g Sh.k Sh.b .nil pass0 (pa_cons pe_str (pa_cons pe_int pa_nil)))))
        (pss_mid (ps_if (pt_cmpR op_eq (pv 2) pe_int (nomark _)) (pss_one (ps_set (i := 4) scBook.nd rfl (by first | exact .inl rfl | exact .inr rfl) (pe_callB (cr_sortTx rfl) (by rfl) mS (by decide +kernel) (pa_cons (pe_callTy (cr_setTx rfl) (by rfl) mT (by decide +kernel) (pa_cons (pe_lc (own := [("word", 6)]) (g := gName 6) rfl scBook.nd (pi_list (pe_call Sh.ok hr1 (by rfl) Sh.g Sh.k Sh.b .nil pass0 (pa_cons pe_str (pa_cons pe_int pa_nil)))) (blkOk_by (own := [("word", 6)]) (N := ["pool", "scales_here", "way", "many", "left", "found", "word", "turn"]) (sc := defScope sBook) (by decide +kernel)) (fun _ _ _ _ _ => pg_name (i := 6) scBook.nd rfl (Or.inl rfl)) (fun _ _ _ _ _ => pts_nil) (fun _ _ _ _ _ => pe_call Lo.ok hr2 (by rfl) Lo.g Lo.k Lo.b .nil pass0 (pa_cons (pv 0) (pa_cons (pv 6) pa_nil)))) pa_nil)) pa_nil)))) pss_nil)
        (pss_mid (ps_setLc (i := 5) (y := "found") (own := [("turn", 7)]) (g := gName 7) rfl scBook.nd rfl rfl (sw_true rfl rfl rfl rfl) (pi_range1 rfl mR (pa_cons (pv 3) pa_nil)) (blkOk_by (own := [("turn", 7)]) (N := ["pool", "scales_here", "way", "many", "left", "found", "word", "turn"]) (sc := defScope sBook) (by decide +kernel)) (fun _ _ _ _ _ => pg_name (i := 7) scBook.nd rfl (Or.inl rfl)) (fun _ _ _ _ _ => pts_nil) (fun _ _ _ _ _ => pe_bmK K rfl PySem.F.plainAttrs_list PySem.F.slot_list_pop PySem.F.type_list_pop mt_popAt (pv 4) (pa_cons (pe_call D.ok hr1 (by rfl) D.g D.k D.b .nil pass0 (pa_cons (pv 0) (pa_cons (pe_callB (call_lenK K rfl) (by rfl) mL PySem.boot_len (pa_cons (pv 4) pa_nil)) pa_nil))) pa_nil)))
        (pss_one (ps_ret (pe_tup (pa_cons (pe_slice sl_list (pv 5) po_none (po_some pe_int)) (pa_cons (pe_slice sl_list (pv 5) (po_some pe_int) (po_some pe_int)) (pa_cons (pe_ix ix_list (pv 5) pe_int (fun _ _ => rfl)) (pa_cons (pe_slice sl_list (pv 5) (po_some pe_int) po_none) pa_nil))))))))))), ?_⟩
    have small : ∀ {n : Nat}, n < 2 ^ 10 → n < 2 ^ 1000 := fun h => Nat.lt_of_lt_of_le h (Nat.pow_le_pow_right (by decide) (by decide))
    have big : 3000 ≤ sizeLine := by decide
    refine ⟨_, rfl, p, d, sd, c, 4, rfl, B, by decide, small (by decide), by omega, fun way d1 c1 H1 w0 w1 e1 B1 K1 => ?_⟩
    have K1 : KeepP p H H1 := K1
    refine ⟨_, rfl, _, _, rfl, rfl, _, _, rfl, ?_⟩
    refine ⟨fun τ G => τ = [some (.ref p), some (.int (n : Int)), some (.int way), some (.int (29 + (n : Int))), none, none, none, none] ∧ G = H1, ?_, ?_⟩
    · refine ⟨_, rfl, rfl, _, rfl, ite2 (fun z1 => ?_) (fun z1 => ⟨rfl, rfl⟩)⟩
      refine ⟨_, rfl, _, _, rfl, rfl, _, rfl, ite2 (fun z2 => ?_) (fun z2 => ⟨rfl, rfl⟩)⟩
      have z3 := of_decide_eq_true z2
      refine ⟨_, rfl, n, rfl, by omega, fun t o te sc H2 T s2 => ?_⟩
      exact k t o te sc engO engT "hundred" (engS.take n) d1 c1 H2 (T.before K1 ⟨_, B1.at_⟩) (by rw [List.length_take]; exact Nat.min_eq_left (show n ≤ 10 by omega)) (eng_near n) (B1.same s2) (by omega) (K1.trans (KeepP.of s2))
    rintro τ G ⟨rfl, rfl⟩
    refine ⟨fun τ G2 => ∃ (q : Addr) (l : List Str), τ = [some (.ref p), some (.int (n : Int)), some (.int way), some (.int (29 + (n : Int))), some (.ref q), none, none, none] ∧ G2 q = some (.lst (l.map V.str)) ∧ GoodRow l ∧ (∀ x ∈ l, nearOk x = true) ∧ 49 ≤ l.length ∧ l.length ≤ 120 ∧ G q = none ∧ Same G G2, ?_, ?_⟩
    · refine ⟨_, rfl, _, _, rfl, rfl, _, rfl, ite2 (fun z => ?_) (fun z => ?_)⟩
      · refine ⟨"ab", 5, rfl, by decide, by decide, fun q G2 nq hq s2 => ⟨q, shN [97, 98] 5, rfl, hq, poolD1.1, poolN1, ?_, ?_, nq, s2⟩⟩
        · rw [poolD1.2]; decide
        · rw [poolD1.2]; decide
      · refine ⟨"abc", 4, rfl, by decide, by decide, fun q G2 nq hq s2 => ⟨q, shN [97, 98, 99] 4, rfl, hq, poolD2.1, poolN2, ?_, ?_, nq, s2⟩⟩
        · rw [poolD2.2]; decide
        · rw [poolD2.2]; decide
    rintro τ G2 ⟨q, l, rfl, hq, good, nearl, l0, l1, nq, s2⟩
    have B2 := B1.same s2
    have qp : q ≠ p := B1.ne nq
    refine ⟨fun τ G3 => ∃ (q : Addr) (l : List Str) (d3 c3 : Int), τ = [some (.ref p), some (.int (n : Int)), some (.int way), some (.int (29 + (n : Int))), some (.ref q), none, none, none] ∧ G3 q = some (.lst (l.map V.str)) ∧ GoodRow l ∧ (∀ x ∈ l, nearOk x = true) ∧ 49 ≤ l.length ∧ l.length ≤ 120 ∧ G q = none ∧ RngAtD G3 p d3 sd c3 ∧ c3 ≤ c1 + 240 ∧ KeepP p G G3, ?_, ?_⟩
    · refine ⟨_, rfl, rfl, _, rfl, ite2 (fun z => ?_) (fun z => ⟨q, l, d1, c1, rfl, hq, good, nearl, l0, l1, nq, B2, by omega, KeepP.of s2⟩)⟩
      refine ⟨"xyz", 4, rfl, by decide, by decide, fun u G3 nu hu s3 => ?_⟩
      have hu : G3 u = some (.lst (xyz.map V.str)) := hu
      have B3 := B2.same s3
      have up : u ≠ p := B2.ne nu
      refine ⟨u, rfl, ⟨_, SqL.of hu⟩, fun L nL => ?_⟩
      have Lp : L ≠ p := B3.ne nL
      refine lc_list (K := K) (a := u) (xs := xyz.map V.str) (fun i G4 => ∃ (R : List Str) (d4 c4 : Int), G4 L = some (.lst (R.map V.str)) ∧ Lngs R (xyz.take i) ∧ RngAtD G4 p d4 sd c4 ∧ c4 ≤ c1 + 2 * (i : Int) ∧ KeepP p G3 G4)
        ⟨[], d1, c1, upd_same, Lngs.nil, B3.same (same_more (Same.refl _) nL), by omega, KeepP.of (same_more (Same.refl _) nL)⟩ (fun i G4 _ ⟨_, _, _, _, _, _, _, kk⟩ => SqL.of (kk _ _ hu up)) ?_ ?_
      · rintro i y G4 hi ⟨R, d4, c4, hL, lg, B4, e4, k4⟩
        obtain ⟨x, hx, rfl⟩ := str_at hi
        have il := (List.getElem?_eq_some_iff.mp hx).1
        rw [xyz_ok.1] at il
        obtain ⟨gx, x10⟩ := xyz_ok.2 x (List.mem_of_getElem? hx)
        have Rl := lg.len
        rw [List.length_take, xyz_ok.1] at Rl
        refine ⟨rfl, _, rfl, _, rfl, p, d4, sd, c4, x, rfl, B4, by omega, by omega, fun ch kk d5 c5 G5 hch hkk e5 B5 k5 => ?_⟩
        refine ⟨_, k5 _ _ hL Lp, by rw [List.length_map]; omega, R ++ [lng ch kk x], d5, c5, ?_, ?_, ?_, by omega, ?_⟩
        · rw [upd_same, List.map_append]
          rfl
        · rw [List.take_add_one, hx]
          exact lg.snoc hch hkk
        · exact ⟨by rw [upd_ne Lp.symm]; exact B5.at_, B5.d0, B5.s0, B5.s1, B5.c0⟩
        · intro v o e nv
          rw [upd_ne (ne_of_none e nL)]
          exact k5 _ _ (k4 _ _ e nv) nv
      · rintro G4 ⟨R, d4, c4, hL, lg, B4, e4, k4⟩
        rw [List.length_map, List.take_length] at lg
        have Rl := lg.len
        rw [xyz_ok.1] at Rl
        rw [List.length_map, xyz_ok.1] at e4
        refine ⟨L, R, rfl, SqL.of hL, by rw [Rl]; decide, fun st l' nst nd hm ln => ?_⟩
        have sS := same_more (x := SetTx P w st l') (Same.refl G4) nst
        refine ⟨st, l', rfl, upd_same, Nat.lt_of_le_of_lt ln (by rw [Rl]; decide), fun ys q2 pm ynd so nq2 => ?_⟩
        have g := lngs_good lg ynd fun x => (pm.mem_iff).trans (hm x)
        have s5 := same_more (x := .lst (ys.map V.str)) sS nq2
        have kall : KeepP p G _ := ((KeepP.of s2).trans (KeepP.of s3)).trans (k4.trans (KeepP.of s5))
        have yl := pm.length_eq
        refine ⟨q2, ys, d4, c4, rfl, upd_same, g.1, lngs_near lg (fun x hx => (hm x).mp (pm.mem_iff.mp hx)), by omega, by omega, ?_, B4.same s5, by omega, kall⟩
        exact (((KeepP.of s2).trans (KeepP.of s3)).trans k4).free ⟨_, B4.at_⟩ (Same.free sS nq2)
    rintro τ G3 ⟨q, pool, d3, c3, rfl, h8, good, nearp, pl0, pl1, nq, B3, e3, K3⟩
    have qp : q ≠ p := B1.ne nq
    have nN : (29 + (n : Int)) = ((29 + n : Nat) : Int) := by omega
    refine ⟨fun τ G9 => ∃ (f : Addr) (fo : List Str) (d9 c9 : Int), τ = [some (.ref p), some (.int (n : Int)), some (.int way), some (.int (29 + (n : Int))), some (.ref q), some (.ref f), none, none] ∧ G9 f = some (.lst (fo.map V.str)) ∧ fo.length = 29 + n ∧ GoodRow fo ∧ (∀ x ∈ fo, nearOk x = true) ∧ RngAtD G9 p d9 sd c9 ∧ c9 ≤ c1 + 300 ∧ KeepP p G G9, ?_, ?_⟩
    · refine ⟨_, rfl, ((29 + n : Nat) : Int), congrArg (fun z => [V.int z]) nN, by omega, by omega, fun f nf => ?_⟩
      have qf : q ≠ f := ne_of_none h8 nf
      have fp : f ≠ p := B3.ne nf
      have nfG : G f = none := K3.free ⟨_, B3.at_⟩ nf
      refine lc_range (lo := 0) (n := (((29 + n : Nat) : Int)).toNat) (fun i G9 => ∃ (fo po : List Str) (d9 c9 : Int), G9 f = some (.lst (fo.map V.str)) ∧ G9 q = some (.lst (po.map V.str)) ∧ fo.length = i ∧ po.length + i = pool.length ∧ List.Perm (fo ++ po) pool ∧ RngAtD G9 p d9 sd c9 ∧ c9 ≤ c3 + (i : Int) ∧ KeepP p G G9)
        ⟨[], pool, d3, c3, upd_same, by rw [upd_ne qf]; exact h8, rfl, rfl, .refl _, B3.same (same_more (Same.refl _) nf), by omega, K3.trans (KeepP.of (same_more (Same.refl _) nf))⟩ ?_ ?_
      · rintro i G9 hi ⟨fo, po, d9, c9, hf, hq, fl, pl, pm, B9, e9, K9⟩
        have hi' : i < 29 + n := by omega
        refine ⟨rfl, _, rfl, .inl ⟨rfl, _, SqL.of hq⟩, _, rfl, _, rfl, q, _, rfl, .inl (SqL.of hq), p, d9, sd, c9, _, rfl, B9, ?_, small ?_, by omega, fun r d' c' Hx r0 r1 cx Bx kx => ?_⟩
        · rw [List.length_map]
          omega
        · rw [List.length_map]
          omega
        rw [List.length_map] at r1
        obtain ⟨kk, rfl⟩ : ∃ kk : Nat, r = (kk : Int) := ⟨r.toNat, by omega⟩
        have hk : kk < po.length := by omega
        obtain ⟨x, hx⟩ : ∃ x, po[kk]? = some x := ⟨_, List.getElem?_eq_getElem hk⟩
        have hqx := kx _ _ hq qp
        have hfx := kx _ _ hf fp
        refine ⟨q, _, _, kk, .str x, rfl, rfl, hqx, by omega, by omega, ?_, ?_, ?_⟩
        · rw [List.length_map]
          exact seqIndex_nat hk
        · rw [List.getElem?_map, hx]
          rfl
        refine ⟨_, by rw [upd_ne qf.symm]; exact hfx, by rw [List.length_map]; omega, fo ++ [x], po.eraseIdx kk, d', c', ?_, ?_, ?_, ?_, ?_, ⟨by rw [upd_ne fp.symm, upd_ne qp.symm]; exact Bx.at_, Bx.d0, Bx.s0, Bx.s1, Bx.c0⟩, by omega, fun u o e nu => ?_⟩
        · rw [upd_same, List.map_append]
          rfl
        · rw [upd_ne qf, upd_same, erase_map]
        · rw [List.length_append, fl]
          rfl
        · rw [List.length_eraseIdx, if_pos hk]
          omega
        · refine .trans ?_ pm
          rw [List.append_assoc]
          exact List.Perm.append_left _ (erase_perm hx)
        · have uf : u ≠ f := fun z => by
            rw [z, nfG] at e
            cases e
          have uq : u ≠ q := fun z => by
            rw [z, nq] at e
            cases e
          rw [upd_ne uf, upd_ne uq]
          exact kx _ _ (K9 u o e nu) nu
      · rintro G9 ⟨fo, po, d9, c9, hf, hq, fl, pl, pm, B9, e9, K9⟩
        have fl' : fo.length = 29 + n := by omega
        have g := (good.perm pm).left
        exact ⟨f, fo, d9, c9, rfl, hf, fl', g, fun x hx => nearp x (pm.mem_iff.mp (List.mem_append_left _ hx)), B9, by omega, K9⟩
    rintro τ G9 ⟨f, fo, d9, c9, rfl, hf, fl', g, nearf, B9, e9, K9⟩
    obtain ⟨hun, hh⟩ : ∃ hun, fo[28]? = some hun := ⟨_, List.getElem?_eq_getElem (by omega)⟩
    have K9' := K1.trans K9
    have free9 : ∀ {x : Addr}, G9 x = none → H x = none := fun {x} nn => K9'.free ⟨_, B9.at_⟩ nn
    refine ⟨_, rfl, _, rfl, f, _, rfl, SqL.of hf, fun a1 n1 => ?_⟩
    have s1 := same_more (x := .lst (cutV (fo.map V.str) none (some 20))) (Same.refl G9) n1
    have h1 : upd G9 a1 (.lst (cutV (fo.map V.str) none (some 20))) a1 = some (.lst ((fo.take 20).map V.str)) := upd_same.trans (congrArg (fun z => some (HO.lst z)) (cut_a (k := 20) (by omega)))
    generalize upd G9 a1 (.lst (cutV (fo.map V.str) none (some 20))) = I1 at s1 h1
    refine ⟨_, rfl, _, rfl, _, rfl, f, _, rfl, SqL.of (s1 _ _ hf), fun a2 n2 => ?_⟩
    have s2' := same_more (x := .lst (cutV (fo.map V.str) (some 20) (some 28))) s1 n2
    have h2 : upd I1 a2 (.lst (cutV (fo.map V.str) (some 20) (some 28))) a2 = some (.lst (((fo.drop 20).take 8).map V.str)) := upd_same.trans (congrArg (fun z => some (HO.lst z)) (cut_b (k := 20) (j := 28) (by omega) (by omega)))
    have h1' := upd_keep (x := .lst (cutV (fo.map V.str) (some 20) (some 28))) h1 n2
    have d12 : a1 ≠ a2 := ne_of_none h1 n2
    have m2 := Same.free s1 n2
    generalize upd I1 a2 (.lst (cutV (fo.map V.str) (some 20) (some 28))) = I2 at s2' h2 h1'
    refine ⟨_, rfl, f, _, _, _, rfl, rfl, SqL.of (s2' _ _ hf), atI_nat (j := 28) (v := .str hun) (by rw [List.getElem?_map, hh]; rfl), ?_⟩
    refine ⟨_, rfl, _, rfl, f, _, rfl, SqL.of (s2' _ _ hf), fun a3 n3 => ?_⟩
    have s3' := same_more (x := .lst (cutV (fo.map V.str) (some 29) none)) s2' n3
    have h3 : upd I2 a3 (.lst (cutV (fo.map V.str) (some 29) none)) a3 = some (.lst ((fo.drop 29).map V.str)) := upd_same.trans (congrArg (fun z => some (HO.lst z)) (cut_c (k := 29) (by omega)))
    have h1'' := upd_keep (x := .lst (cutV (fo.map V.str) (some 29) none)) h1' n3
    have h2'' := upd_keep (x := .lst (cutV (fo.map V.str) (some 29) none)) h2 n3
    have d13 : a1 ≠ a3 := ne_of_none h1' n3
    have d23 : a2 ≠ a3 := ne_of_none h2 n3
    have m3 := Same.free s2' n3
    generalize upd I2 a3 (.lst (cutV (fo.map V.str) (some 29) none)) = I3 at s3' h3 h1'' h2''
    refine ⟨by show 4 ≤ sizeLine; decide, fun t nt => ?_⟩
    refine k t a1 a2 a3 (fo.take 20) ((fo.drop 20).take 8) hun (fo.drop 29) d9 c9 _ ⟨free9 (Same.free s3' nt), free9 n1, free9 m2, free9 m3, d12, d13, d23, ⟨upd_same, upd_keep h1'' nt, upd_keep h2'' nt, upd_keep h3 nt⟩, ?_, ?_, ?_⟩ ?_ (by rw [row_of hh]; exact nearf) (B9.same (same_more s3' nt)) (by omega) (K9'.trans (KeepP.of (same_more s3' nt)))
    · rw [List.length_take]
      omega
    · rw [List.length_take, List.length_drop]
      omega
    · rw [row_of hh]
      exact g
    · rw [List.length_drop]
      omega
end
end LB
set_option Elab.async false
set_option linter.all false
set_option maxRecDepth 100000
set_option maxHeartbeats 8000000
/-! A hidden table's copy is its own: all its lists are new. -/
namespace LB
open PySem L2 Wk
open Bg (Bg Wo)
def spCopiedX : Sp := fun vs H Q _ => ∃ (t o te sc : Addr) (ones tens : List Str) (hun : Str) (scales : List Str), vs = [.ref t] ∧ TabAt H t ones tens hun scales o te sc ∧
  ∀ (t' o' te' sc' : Addr) (H' : Hp), H t' = none → H o' = none → H te' = none → H sc' = none → TabAt H' t' ones tens hun scales o' te' sc' → Same H H' → Q (.ref t') H'
def spHInitX (C C0 : Addr) : Sp := fun vs H Q E => ∃ (a dx t o te sc : Addr) (ones tens : List Str) (hun : Str) (scales : List Str), vs = [.ref a, .ref t] ∧ H a = some (.ins C dx []) ∧ TabD H t ones tens hun scales o te sc ∧
  (fault ones tens hun scales = none → ∀ (tc oc ec cc : Addr) (H' : Hp), H tc = none → H oc = none → H ec = none → H cc = none → TabAt H' tc ones tens hun scales oc ec cc → HidAt H' a C dx tc 0 → (∀ q u, H q = some u → q ≠ a → H' q = some u) → Q .non H') ∧
  (∀ v, fault ones tens hun scales = some v → ∀ d H', H d = none → Same H H' → H' d = some (.xd [("value", v)]) → E (.ref C0) (some d) H')
section
variable {P : Program} {w : World} {K : PySem.W.Frag} {mg : Str → Option Value} {base : Heap} {CH C0 C1 : Addr}
theorem ok_copiedX {f : Addr} {fd : FuncData} (F : Fun K "copied" "copied" sCopied f fd) (mS : mg "list" = none) : FnOk P w K mg base CX0 1 f fd ["table"] spCopiedX := by
  refine F.ok scCopied (fun vs H Q E h => ?_) (fun cdv A outer s H vs Q E hr h => ?_)
  · obtain ⟨t, o, te, sc, ones, tens, hun, scales, rfl, _⟩ := h
    rfl
  · obtain ⟨t, o, te, sc, ones, tens, hun, scales, rfl, TA, k⟩ := h
    refine ⟨_, pss_cons (ps_asg (pv 0) (pg_tup (by rfl) (pgs_cons (pg_name (i := 1) scCopied.nd rfl (.inl rfl)) (pgs_cons (pg_name (i := 2) scCopied.nd rfl (.inl rfl)) (pgs_cons (pg_name (i := 3) scCopied.nd rfl (.inl rfl)) (pgs_cons (pg_name (i := 4) scCopied.nd rfl (.inl rfl)) pgs_nil))))))
        (pss_one (ps_ret (pe_tup (pa_cons (pe_callTy call_list_of (by rfl) mS (by decide +kernel) (pa_cons (pv 1) pa_nil)) (pa_cons (pe_callTy call_list_of (by rfl) mS (by decide +kernel) (pa_cons (pv 2) pa_nil)) (pa_cons (pv 3) (pa_cons (pe_callTy call_list_of (by rfl) mS (by decide +kernel) (pa_cons (pv 4) pa_nil)) pa_nil))))))), ?_⟩
    refine ⟨_, rfl, t, _, rfl, SqT.of TA.tup, rfl, _, _, rfl, _, _, rfl, _, _, rfl, _, _, rfl, rfl, ?_⟩
    refine ⟨_, rfl, o, _, rfl, .inl (SqL.of TA.lo), fun a na => ?_⟩
    have s1 := same_more (x := .lst (ones.map V.str)) (Same.refl H) na
    refine ⟨_, rfl, te, _, rfl, .inl (SqL.of (s1 _ _ TA.lt)), fun b nb => ?_⟩
    have s2 := same_more (x := .lst (tens.map V.str)) s1 nb
    refine ⟨_, rfl, _, rfl, sc, _, rfl, .inl (SqL.of (s2 _ _ TA.ls)), fun e ne => ?_⟩
    have s3 := same_more (x := .lst (scales.map V.str)) s2 ne
    refine ⟨by show 4 ≤ sizeLine; decide, fun T nT => ?_⟩
    exact k T a b e _ (Same.free s3 nT) na (Same.free s1 nb) (Same.free s2 ne) ⟨upd_same, upd_keep (upd_keep (upd_keep upd_same nb) ne) nT, upd_keep (upd_keep upd_same ne) nT, upd_keep upd_same nT⟩ (same_more s3 nT)
theorem ok_hInitX {f fC fP : Addr} {fd dC dP : FuncData} (F : Fun K "__init__" "HiddenTable.__init__" (inClass cHiddenTable 0) f fd) (C : DefX P w K mg base "check_table" 3 fC dC ["table"] (spCheckX C0)) (Cp : Def1 P w K mg base "copied" 1 fP dP ["table"] spCopiedX) (HC : HidC K CH) :
    FnOk P w K mg base (L2.CX P w) 4 f fd ["self", "table"] (spHInitX CH C0) := by
  refine F.okX scHInit (fun vs H Q E h => ?_) (fun cdv A outer s H vs Q E hr h => ?_)
  · obtain ⟨a, dx, t, o, te, sc, ones, tens, hun, scales, rfl, _⟩ := h
    rfl
  · obtain ⟨a, dx, t, o, te, sc, ones, tens, hun, scales, rfl, ha, T, k, kE⟩ := h
    have hr1 : Room 1 _ := hr.mono (by decide)
    refine ⟨_, pss_cons (ps_expr (pe_call C.ok hr (by rfl) C.g C.k C.b .nil (passes_call (takes_of rfl rfl rfl rfl) (fun _ _ _ _ h => h)) (pa_cons (pv 1) pa_nil)))
        (pss_cons (ps_fld (pv 0) (pe_call Cp.ok hr1 (by rfl) Cp.g Cp.k Cp.b .nil pass0 (pa_cons (pv 1) pa_nil)) rfl)
        (pss_one (ps_fld (pv 0) pe_int rfl))), ?_⟩
    refine ⟨_, rfl, t, o, te, sc, ones, tens, hun, scales, rfl, T.at_, by have := T.l1; omega, by have := T.l2; omega, by have := T.l3; omega, T.short, fun hf H1 s1 => ?_, fun v hv d H' n s m => kE v hv d H' n s m⟩
    refine ⟨_, rfl, t, o, te, sc, ones, tens, hun, scales, rfl, (T.same s1).at_, fun tc oc ec cc H2 nt n1 n2 n3 T2 s2 => ?_⟩
    have s12 := Same.trans s1 s2
    have h2 := s12 _ _ ha
    refine ⟨_, rfl, a, CH, dx, [], rfl, h2, HC.cls, HC.nt, by decide, ?_⟩
    refine ⟨_, rfl, a, CH, dx, _, rfl, upd_same, HC.cls, HC.nq, by show 1 < 1000; decide, ?_⟩
    have ne : ∀ {q : Addr} {u : HO}, H2 q = some u → (∀ l, u ≠ .ins CH dx l) → q ≠ a := fun {q u} e n z => by
      rw [z, h2] at e
      exact n _ (Option.some.inj e).symm
    have up : ∀ {q : Addr} {u : HO}, H2 q = some u → (∀ l, u ≠ .ins CH dx l) → upd (upd H2 a (.ins CH dx [("_table", .ref tc)])) a (.ins CH dx [("_table", .ref tc), ("_questions", .int 0)]) q = some u := fun {q u} e n => (upd_ne (ne e n)).trans ((upd_ne (ne e n)).trans e)
    exact k hf tc oc ec cc _ (Same.free s1 nt) (Same.free s1 n1) (Same.free s1 n2) (Same.free s1 n3) ⟨up T2.tup (fun _ z => by cases z), up T2.lo (fun _ z => by cases z), up T2.lt (fun _ z => by cases z), up T2.ls (fun _ z => by cases z)⟩ upd_same fun q u e n => (upd_ne n).trans ((upd_ne n).trans (s12 _ _ e))
end
end LB
set_option Elab.async false
set_option linter.all false
set_option maxRecDepth 100000
set_option maxHeartbeats 4000000
/-! len(set of texts) -/
namespace Wk
open PySem PySem.Spec PyProof.Rows L2 PySem.Froz
section
variable {X : Cx}
def rLenTx (P : Program) (w : World) : List V → Hp → VK → Prop := fun vs H Q => ∃ (a : Addr) (l : List Str), vs = [V.ref a] ∧ H a = some (SetTx P w a l) ∧ l.length < scanBound ∧ Q (.int l.length) H
theorem cr_lenTx : CallR X (.builtin "len") (rLenTx X.prog X.w) := by
  intro pins s σ H vs us Q I r h
  obtain ⟨a, l, rfl, ha, room, q⟩ := h
  obtain ⟨D, ho, T⟩ := (I.hok a _ ha).1
  rw [Vals.ref1 r]
  have hl := line63
  have hs : sizeLine = 16777216 := sizeLine_eq
  have cnt : D.1.size = l.length := T.ok.sz
  have line : l.length ≤ sizeLine := fits_of_scanBound room
  refine call_len_set (es := D.1) (ep := D.2.1) (t := D.2.2) ho ⟨rfl, rfl, rfl⟩ rfl T.ok.fit (by omega) ⟨.int l.length, H, I.tok _, ⟨_, by rw [cnt]⟩, q⟩
end
end Wk
set_option Elab.async false
set_option linter.all false
set_option maxRecDepth 100000
set_option maxHeartbeats 4000000
/-! Orders compared: a table near another. -/
namespace LB
open PySem L2 Wk
/-- another word in a row of such words -/
theorem set_good {l : List Str} {k : Nat} {y : Str} (g : GoodRow l) (n : ∀ x ∈ l, nearOk x = true) (gy : GoodWord y) (ny : nearOk y = false) : GoodRow (l.set k y) := by
  have hy : y ∉ l := fun h => by
    rw [n y h] at ny
    cases ny
  refine ⟨?_, fun x hx => ?_⟩
  · have go : ∀ (l : List Str) (k : Nat), l.Nodup → y ∉ l → (l.set k y).Nodup := by
      intro l
      induction l with
      | nil => intro k _ _; exact List.nodup_nil
      | cons a l ih =>
        intro k nd h
        obtain ⟨n1, n2⟩ := List.nodup_cons.mp nd
        cases k with
        | zero => exact List.nodup_cons.mpr ⟨fun z => h (List.mem_cons_of_mem _ z), n2⟩
        | succ k =>
          refine List.nodup_cons.mpr ⟨fun z => ?_, ih k n2 fun z => h (List.mem_cons_of_mem _ z)⟩
          rcases List.mem_or_eq_of_mem_set z with q | q
          · exact n1 q
          · exact h (q ▸ List.mem_cons_self)
    exact go l k g.nd hy
  · rcases List.mem_or_eq_of_mem_set hx with q | q
    · exact g.ok x q
    · exact q ▸ gy
/-- a letter in front -/
def frW (c : Nat) (x : Str) : Str := (⟨#[c]⟩ : Str) ++ x
theorem fr_list (c : Nat) (x : Str) : (frW c x).cps.toList = c :: x.cps.toList := by
  show (#[c] ++ x.cps).toList = _
  rw [Array.toList_append]
  rfl
theorem fr_inj {c : Nat} {x y : Str} (h : frW c x = frW c y) : x = y := by
  have z := congrArg (fun s : Str => s.cps.toList) h
  simp only [fr_list, List.cons.injEq, true_and] at z
  cases x
  cases y
  simp only at z
  rw [Array.toList_inj.mp z]
theorem near_len {x : Str} (h : nearOk x = true) : x.length ≤ 12 := by
  unfold nearOk at h
  simp only [Bool.and_eq_true] at h
  exact of_decide_eq_true h.1.1.1
theorem fr_len (c : Nat) (x : Str) : (frW c x).length = x.length + 1 := by
  show (frW c x).cps.size = _
  rw [← Array.length_toList, fr_list]
  rfl
theorem fr_good {c : Nat} {x : Str} (hc : 97 ≤ c ∧ c ≤ 122) (g : GoodWord x) (n : nearOk x = true) : GoodWord (frW c x) := by
  obtain ⟨a, b, e⟩ := g
  have l := fr_len c x
  have m := near_len n
  refine ⟨by omega, by omega, fun z hz => ?_⟩
  rw [fr_list] at hz
  rcases List.mem_cons.mp hz with rfl | h
  · exact hc
  · exact e z h
theorem fr_row {c : Nat} {l : List Str} (hc : 97 ≤ c ∧ c ≤ 122) (g : GoodRow l) (n : ∀ x ∈ l, nearOk x = true) : GoodRow (l.map (frW c)) := by
  refine ⟨List.pairwise_map.mpr (g.nd.imp fun {a b} h z => h (fr_inj z)), fun x hx => ?_⟩
  obtain ⟨y, hy, rfl⟩ := List.mem_map.mp hx
  exact fr_good hc (g.ok y hy) (n y hy)
/-- five letters behind -/
def tailA (x : Str) : Str := x ++ ("aaaaa" : Str)
theorem tail_list (x : Str) : (tailA x).cps.toList = x.cps.toList ++ [97, 97, 97, 97, 97] := by
  show (x.cps ++ _).toList = _
  rw [Array.toList_append]
  rfl
theorem tail_len (x : Str) : (tailA x).length = x.length + 5 := by
  show (tailA x).cps.size = _
  rw [← Array.length_toList, tail_list, List.length_append]
  rfl
theorem tail_ok {x : Str} (g : GoodWord x) (n : nearOk x = true) : GoodWord (tailA x) ∧ nearOk (tailA x) = false := by
  obtain ⟨a, b, e⟩ := g
  have l := tail_len x
  have m := near_len n
  refine ⟨⟨by omega, by omega, fun z hz => ?_⟩, ?_⟩
  · rw [tail_list] at hz
    rcases List.mem_append.mp hz with h | h
    · exact e z h
    · rcases (by simpa using h : z = 97) with rfl
      omega
  · unfold nearOk
    rw [tail_list, decide_eq_false (show ¬ (tailA x).length ≤ 5 by omega)]
    simp
theorem pick3 {x : Str} (g : GoodWord x) (n : nearOk x = true) {r : Int} (h0 : 0 ≤ r) (h1 : r < 3) : ∃ y, atI [V.str "zzzzzzzz", V.str "aaaaaaaa", V.str (tailA x)] r = some (.str y) ∧ GoodWord y ∧ nearOk y = false := by
  rcases (show r = 0 ∨ r = 1 ∨ r = 2 by omega) with rfl | rfl | rfl
  · exact ⟨_, rfl, goodB_ok (by decide +kernel), by decide +kernel⟩
  · exact ⟨_, rfl, goodB_ok (by decide +kernel), by decide +kernel⟩
  · exact ⟨_, rfl, tail_ok g n⟩
def spNear : Sp := fun vs H Q _ => ∃ (p : Addr) (d s c : Int) (t o te sc : Addr) (ones tens : List Str) (hun : Str) (scales : List Str), vs = [.ref p, .ref t] ∧ RngAtD H p d s c ∧ TabAt H t ones tens hun scales o te sc ∧ t ≠ p ∧ o ≠ p ∧ te ≠ p ∧ sc ≠ p ∧ ones.length = 20 ∧ tens.length = 8 ∧ scales.length ≤ 20 ∧
  GoodRow (ones ++ (tens ++ hun :: scales)) ∧ (∀ x ∈ ones ++ (tens ++ hun :: scales), nearOk x = true) ∧ c < 2 ^ 28 ∧
  ∀ (t' o' te' sc' : Addr) (ones' tens' : List Str) (hun' : Str) (scales' : List Str) (d' c' : Int) (H' : Hp), NewTab H H' t' o' te' sc' ones' tens' hun' scales' → scales'.length = scales.length → RngAtD H' p d' s c' → c' ≤ c + 500 → (∀ q o, H q = some o → q ≠ p → H' q = some o) → Q (.ref t') H'

section
variable {P : Program} {w : World} {K : PySem.W.Frag} {mg : Str → Option Value} {base : Heap}
theorem scNear : FnScope ["pool", "book", "way", "every", "word", "turn", "spot", "other"] ["pool", "book"] (defScope sNear) := ⟨rfl, rfl, rfl, by decide +kernel, rfl, by decide +kernel, by decide +kernel⟩
theorem ok_near {f fD : Addr} {fd dD : FuncData} (F : Fun K "_law_near" "_law_near" sNear f fd) (D : Def1 P w K mg base "_law_draw" 1 fD dD ["pool", "many"] spDrawD) (mL : mg "len" = none) (mT : mg "set" = none) (mR : mg "range" = none) : FnOk P w K mg base CX0 2 f fd ["pool", "book"] spNear := by
  refine F.ok scNear (fun vs H Q E h => ?_) (fun cdv A outer s H vs Q E hr h => ?_)
  · obtain ⟨p, d, s, c, t, o, te, sc, ones, tens, hun, scales, rfl, _⟩ := h
    rfl
  · obtain ⟨p, d, sd, c, t, o, te, sc, ones, tens, hun, scales, rfl, B, TA, tp, op, tep, scp, l1, l2, l3, good, near, c28, k⟩ := h
    have hr1 : Room 1 _ := hr
    have big : 3000 ≤ sizeLine := by decide
    have small : ∀ {n : Nat}, n < 2 ^ 10 → n < 2 ^ 1000 := fun h => Nat.lt_of_lt_of_le h (Nat.pow_le_pow_right (by decide) (by decide))
    refine ⟨_, pss_cons (ps_par (i := 2) (j := 3) (by rfl) scNear.nd rfl rfl (by decide) rfl rfl (pa_cons (pe_call D.ok hr1 (by rfl) D.g D.k D.b .nil pass0 (pa_cons (pv 0) (pa_cons pe_int pa_nil))) (pa_cons (pe_op op_cat (pe_op op_cat (pe_op op_cat (pe_ix ix_tup (pv 1) pe_int (fun _ _ => rfl)) (pe_ix ix_tup (pv 1) pe_int (fun _ _ => rfl))) (pe_lst (pa_cons (pe_ix ix_tup (pv 1) pe_int (fun _ _ => rfl)) pa_nil))) (pe_ix ix_tup (pv 1) pe_int (fun _ _ => rfl))) pa_nil)) (by rfl))
        (pss_mid (ps_if (pt_cmpR op_lt (pv 2) pe_int (nomark _)) (pss_mid (ps_set (i := 3) scNear.nd rfl (by first | exact .inl rfl | exact .inr rfl) (pe_ifExp (pt_cmpR op_eq (pv 2) pe_int (nomark _)) (pe_lc (own := [("word", 4)]) (g := gName 4) rfl scNear.nd (pi_list ((pv 3))) (blkOk_by (own := [("word", 4)]) (N := ["pool", "book", "way", "every", "word", "turn", "spot", "other"]) (sc := defScope sNear) (by decide +kernel)) (fun _ _ _ _ _ => pg_name (i := 4) scNear.nd rfl (Or.inl rfl)) (fun _ _ _ _ _ => pts_nil) (fun _ _ _ _ _ => pe_op op_add_str (pe_ix ix_str pe_str (pe_call D.ok hr1 (by rfl) D.g D.k D.b .nil pass0 (pa_cons (pv 0) (pa_cons pe_int pa_nil))) (fun _ _ => rfl)) (pv 4))) (pe_lc (own := [("word", 4)]) (g := gName 4) rfl scNear.nd (pi_list ((pv 3))) (blkOk_by (own := [("word", 4)]) (N := ["pool", "book", "way", "every", "word", "turn", "spot", "other"]) (sc := defScope sNear) (by decide +kernel)) (fun _ _ _ _ _ => pg_name (i := 4) scNear.nd rfl (Or.inl rfl)) (fun _ _ _ _ _ => pts_nil) (fun _ _ _ _ _ => pe_op op_add_str pe_str (pv 4)))))
        (pss_one (ps_if (pt_cmpR op_lt (pe_callB cr_lenTx (by rfl) mL (by decide +kernel) (pa_cons (pe_callTy (cr_setTx rfl) (by rfl) mT (by decide +kernel) (pa_cons (pv 3) pa_nil)) pa_nil)) (pe_callB call_len_seq (by rfl) mL PySem.boot_len (pa_cons (pv 3) pa_nil)) (nomark _)) (pss_one (ps_setLc (i := 3) (y := "every") (own := [("word", 4)]) (g := gName 4) (by rfl) scNear.nd rfl rfl (sw_true rfl rfl rfl (by decide +kernel)) (pi_list (pe_op op_cat (pe_op op_cat (pe_op op_cat (pe_ix ix_tup (pv 1) pe_int (fun _ _ => rfl)) (pe_ix ix_tup (pv 1) pe_int (fun _ _ => rfl))) (pe_lst (pa_cons (pe_ix ix_tup (pv 1) pe_int (fun _ _ => rfl)) pa_nil))) (pe_ix ix_tup (pv 1) pe_int (fun _ _ => rfl)))) (blkOk_by (own := [("word", 4)]) (N := ["pool", "book", "way", "every", "word", "turn", "spot", "other"]) (sc := defScope sNear) (by decide +kernel)) (fun _ _ _ _ _ => pg_name (i := 4) scNear.nd rfl (Or.inl rfl)) (fun _ _ _ _ _ => pts_nil) (fun _ _ _ _ _ => pe_op op_add_str pe_str (pv 4)))) pss_nil))) pss_nil)
        (pss_mid (ps_if (pt_cmpR op_eq (pv 2) pe_int (nomark _)) (pss_one (ps_asg (pe_ix ix_list (pe_lst (pa_cons pe_str (pa_cons pe_str (pa_cons (pe_op op_add_str (pe_ix ix_list (pv 3) (pe_call D.ok hr1 (by rfl) D.g D.k D.b .nil pass0 (pa_cons (pv 0) (pa_cons pe_int pa_nil))) (fun _ _ => rfl)) pe_str) pa_nil)))) (pe_call D.ok hr1 (by rfl) D.g D.k D.b .nil pass0 (pa_cons (pv 0) (pa_cons pe_int pa_nil))) (fun _ _ => rfl)) (pg_sub (pv 3) pe_int set_list))) pss_nil)
        (pss_mid (ps_if (pt_cmpR op_eq (pv 2) pe_int (nomark _)) (pss_one (ps_asg (pe_ix ix_list (pe_lst (pa_cons pe_str (pa_cons pe_str (pa_cons (pe_op op_add_str (pe_ix ix_list (pv 3) (pe_call D.ok hr1 (by rfl) D.g D.k D.b .nil pass0 (pa_cons (pv 0) (pa_cons (pe_callB call_len_seq (by rfl) mL PySem.boot_len (pa_cons (pv 3) pa_nil)) pa_nil))) (fun _ _ => rfl)) pe_str) pa_nil)))) (pe_call D.ok hr1 (by rfl) D.g D.k D.b .nil pass0 (pa_cons (pv 0) (pa_cons pe_int pa_nil))) (fun _ _ => rfl)) (pg_sub (pv 3) pe_int set_list))) pss_nil)
        (pss_mid (ps_if (pt_cmpR op_gt (pv 2) pe_int (nomark _)) (pss_one (ps_for PassesOwn.never rfl (pi_range1 rfl mR (pa_cons (pe_op op_sub (pv 2) pe_int) pa_nil)) (pg_name (i := 5) scNear.nd rfl (.inl rfl))
          (pss_cons (ps_par (i := 6) (j := 7) (by rfl) scNear.nd rfl rfl (by decide) rfl rfl (pa_cons (pe_call D.ok hr1 (by rfl) D.g D.k D.b .nil pass0 (pa_cons (pv 0) (pa_cons (pe_callB call_len_seq (by rfl) mL PySem.boot_len (pa_cons (pv 3) pa_nil)) pa_nil))) (pa_cons (pe_call D.ok hr1 (by rfl) D.g D.k D.b .nil pass0 (pa_cons (pv 0) (pa_cons (pe_callB call_len_seq (by rfl) mL PySem.boot_len (pa_cons (pv 3) pa_nil)) pa_nil))) pa_nil)) (by rfl))
        (pss_one (ps_asg (pe_tup (pa_cons (pe_ix ix_list (pv 3) (pv 7) (fun _ _ => rfl)) (pa_cons (pe_ix ix_list (pv 3) (pv 6) (fun _ _ => rfl)) pa_nil))) (pg_tup (by rfl) (pgs_cons (pg_sub (pv 3) (pv 6) set_list) (pgs_cons (pg_sub (pv 3) (pv 7) set_list) pgs_nil)))))))) pss_nil)
        (pss_one (ps_ret (pe_tup (pa_cons (pe_slice sl_list (pv 3) po_none (po_some pe_int)) (pa_cons (pe_slice sl_list (pv 3) (po_some pe_int) (po_some pe_int)) (pa_cons (pe_ix ix_list (pv 3) pe_int (fun _ _ => rfl)) (pa_cons (pe_slice sl_list (pv 3) (po_some pe_int) po_none) pa_nil))))))))))), ?_⟩
    obtain ⟨row, hrow⟩ : ∃ l, l = ones ++ (tens ++ hun :: scales) := ⟨_, rfl⟩
    rw [← hrow] at good near
    have rl : row.length = 29 + scales.length := by
      rw [hrow, List.length_append, List.length_append, List.length_cons]
      omega
    have catE : ones.map V.str ++ tens.map V.str ++ [V.str hun] ++ scales.map V.str = row.map V.str := by
      rw [hrow, List.map_append, List.map_append, List.map_cons]
      simp
    refine ⟨_, rfl, p, d, sd, c, 6, rfl, B, by decide, small (by decide), by omega, fun way d1 c1 H1 w0 w1 e1 B1 K1 => ?_⟩
    have K1 : KeepP p H H1 := K1
    have T1 : TabAt H1 t ones tens hun scales o te sc := ⟨K1 _ _ TA.tup tp, K1 _ _ TA.lo op, K1 _ _ TA.lt tep, K1 _ _ TA.ls scp⟩
    refine ⟨_, rfl, t, _, _, _, rfl, rfl, SqT.of T1.tup, rfl, _, rfl, t, _, _, _, rfl, rfl, SqT.of T1.tup, rfl, o, te, _, _, rfl, rfl, T1.lo, T1.lt, ?_, fun a na => ?_⟩
    · rw [List.length_map, List.length_map]
      show _ ≤ sizeLine
      omega
    have sa := same_more (x := .lst (ones.map V.str ++ tens.map V.str)) (Same.refl _) na
    refine ⟨_, rfl, t, _, _, _, rfl, rfl, SqT.of (sa _ _ T1.tup), rfl, by show 1 ≤ sizeLine; omega, fun b nb => ?_⟩
    have sb := same_more (x := .lst [.str hun]) sa nb
    refine ⟨a, b, _, _, rfl, rfl, upd_keep upd_same nb, upd_same, ?_, fun g ng => ?_⟩
    · rw [List.length_append, List.length_map, List.length_map]
      show _ + 1 ≤ sizeLine
      omega
    have sg := same_more (x := .lst (ones.map V.str ++ tens.map V.str ++ [.str hun])) sb ng
    refine ⟨_, rfl, t, _, _, _, rfl, rfl, SqT.of (sg _ _ T1.tup), rfl, g, sc, _, _, rfl, rfl, upd_same, sg _ _ T1.ls, ?_, fun e ne => ?_⟩
    · rw [List.length_append, List.length_append, List.length_map, List.length_map, List.length_map]
      show _ + 1 + _ ≤ sizeLine
      omega
    have se := same_more (x := .lst (ones.map V.str ++ tens.map V.str ++ [.str hun] ++ scales.map V.str)) sg ne
    have he := upd_same (H := upd (upd (upd H1 a (.lst (ones.map V.str ++ tens.map V.str))) b (.lst [.str hun])) g (.lst (ones.map V.str ++ tens.map V.str ++ [.str hun]))) (a := e) (o := .lst (ones.map V.str ++ tens.map V.str ++ [.str hun] ++ scales.map V.str))
    rw [catE] at he
    have fe := Same.free sg ne
    refine ⟨_, _, rfl, ?_⟩
    generalize hG2 : upd (upd (upd (upd H1 a (.lst (ones.map V.str ++ tens.map V.str))) b (.lst [.str hun])) g (.lst (ones.map V.str ++ tens.map V.str ++ [.str hun]))) e (.lst (ones.map V.str ++ tens.map V.str ++ [.str hun] ++ scales.map V.str)) = G2 at se
    have he : G2 e = some (.lst (row.map V.str)) := by rw [← hG2, upd_same, catE]
    have B2 := B1.same se
    have K2 : KeepP p H G2 := K1.trans (KeepP.of se)
    have nHe : H e = none := K1.free ⟨_, B1.at_⟩ fe
    have T2 : TabAt G2 t ones tens hun scales o te sc := ⟨K2 _ _ TA.tup tp, K2 _ _ TA.lo op, K2 _ _ TA.lt tep, K2 _ _ TA.ls scp⟩
    have ep : e ≠ p := B1.ne fe
    clear hG2 sa sb sg na nb ng ne
    refine ⟨fun τ G => ∃ (q : Addr) (l : List Str) (d2 c2 : Int), τ = [some (.ref p), some (.ref t), some (.int way), some (.ref q), none, none, none, none] ∧ G q = some (.lst (l.map V.str)) ∧ GoodRow l ∧ l.length = 29 + scales.length ∧ (2 ≤ way → ∀ x ∈ l, nearOk x = true) ∧ H q = none ∧ RngAtD G p d2 sd c2 ∧ c2 ≤ c + 100 ∧ KeepP p H G, ?_, ?_⟩
    · refine ⟨_, rfl, _, _, rfl, rfl, _, rfl, ite2 (fun z => ?_) (fun z => ⟨e, row, d1, c1, rfl, he, good, rl, fun _ => near, nHe, B2, by omega, K2⟩)⟩
      have way2 : way < 2 := of_decide_eq_true z
      refine ⟨fun τ G => ∃ (q : Addr) (l : List Str) (d2 c2 : Int), τ = [some (.ref p), some (.ref t), some (.int way), some (.ref q), none, none, none, none] ∧ G q = some (.lst (l.map V.str)) ∧ l.length = 29 + scales.length ∧ (∀ x ∈ l, GoodWord x) ∧ H q = none ∧ RngAtD G p d2 sd c2 ∧ c2 ≤ c + 100 ∧ KeepP p H G, ?_, ?_⟩
      · refine ⟨_, rfl, rfl, _, rfl, ite2 (fun z => ?_) (fun z => ?_)⟩
        · refine ⟨_, rfl, e, rfl, ⟨_, SqL.of he⟩, fun L nL => ?_⟩
          have Lp : L ≠ p := B2.ne nL
          refine lc_list (K := K) (a := e) (xs := row.map V.str) (fun i G => ∃ (R : List Str) (d4 c4 : Int), G L = some (.lst (R.map V.str)) ∧ R.length = i ∧ (∀ x ∈ R, GoodWord x) ∧ RngAtD G p d4 sd c4 ∧ c4 ≤ c1 + (i : Int) ∧ KeepP p G2 G)
            ⟨[], d1, c1, upd_same, rfl, (fun _ h => by cases h), B2.same (same_more (Same.refl _) nL), by omega, KeepP.of (same_more (Same.refl _) nL)⟩ (fun i G _ ⟨_, _, _, _, _, _, _, _, kk⟩ => SqL.of (kk _ _ he ep)) ?_ ?_
          · rintro i y G4 hi ⟨R, d4, c4, hL, Rl, gR, B4, e4, k4⟩
            obtain ⟨x, hx, rfl⟩ := str_at hi
            have il := (List.getElem?_eq_some_iff.mp hx).1
            have xm := List.mem_of_getElem? hx
            refine ⟨rfl, _, rfl, p, d4, sd, c4, 3, rfl, B4, by decide, small (by decide), by omega, fun r d5 c5 G5 r0 r1 e5 B5 k5 => ?_⟩
            obtain ⟨rn, rfl, r3⟩ : ∃ rn : Nat, r = (rn : Int) ∧ rn < 3 := ⟨r.toNat, by omega, by omega⟩
            obtain ⟨ch, hat, hch⟩ := abz ⟨rn, r3⟩
            have gx : GoodWord (frW ch x) := fr_good (by rcases hch with rfl | rfl | rfl <;> decide) (good.ok x xm) (near x xm)
            refine ⟨_, _, ch, rfl, rfl, by decide, hat, _, rfl, _, _, rfl, rfl, ?_, ?_⟩
            · show (1 : Nat) + x.length ≤ sizeLine
              have := near_len (near x xm)
              omega
            refine ⟨_, k5 _ _ hL Lp, by rw [List.length_map]; omega, R ++ [frW ch x], d5, c5, ?_, ?_, ?_, ?_, by omega, ?_⟩
            · rw [upd_same, List.map_append]
              rfl
            · rw [List.length_append, Rl]
              rfl
            · intro y hy
              rcases List.mem_append.mp hy with h | h
              · exact gR y h
              · rw [List.mem_singleton.mp h]
                exact gx
            · exact ⟨by rw [upd_ne Lp.symm]; exact B5.at_, B5.d0, B5.s0, B5.s1, B5.c0⟩
            · intro v ob ev nv
              rw [upd_ne (ne_of_none ev nL)]
              exact k5 _ _ (k4 _ _ ev nv) nv
          · rintro G4 ⟨R, d4, c4, hL, Rl, gR, B4, e4, k4⟩
            rw [List.length_map] at Rl e4
            exact ⟨L, R, d4, c4, rfl, hL, by omega, gR, K2.free ⟨_, B2.at_⟩ nL, B4, by omega, K2.trans k4⟩
        · refine ⟨_, rfl, e, rfl, ⟨_, SqL.of he⟩, fun L nL => ?_⟩
          have Lp : L ≠ p := B2.ne nL
          refine lc_list (K := K) (a := e) (xs := row.map V.str) (fun i G => G L = some (.lst (((row.take i).map (frW 109)).map V.str)) ∧ Same G2 G)
            ⟨upd_same, same_new nL⟩ (fun i G _ ⟨_, kk⟩ => SqL.of (kk _ _ he)) ?_ ?_
          · rintro i y G4 hi ⟨hL, k4⟩
            obtain ⟨x, hx, rfl⟩ := str_at hi
            have il := (List.getElem?_eq_some_iff.mp hx).1
            have xm := List.mem_of_getElem? hx
            refine ⟨rfl, _, rfl, _, _, rfl, rfl, ?_, ?_⟩
            · show (1 : Nat) + x.length ≤ sizeLine
              have := near_len (near x xm)
              omega
            refine ⟨_, hL, ?_, ?_, fun q' o' e' => ?_⟩
            · rw [List.length_map, List.length_map, List.length_take]
              show min i row.length < sizeLine
              omega
            · rw [upd_same, List.take_add_one, hx, List.map_append, List.map_append]
              rfl
            · rw [upd_ne (ne_of_none e' nL)]
              exact k4 _ _ e'
          · rintro G4 ⟨hL, k4⟩
            rw [List.length_map, List.take_length] at hL
            have gm := fr_row (c := 109) (by decide) good near
            exact ⟨L, _, d1, c1, rfl, hL, by rw [List.length_map]; exact rl, gm.ok, K2.free ⟨_, B2.at_⟩ nL, B2.same k4, by omega, K2.trans (KeepP.of k4)⟩
      rintro τ G3 ⟨q, l, d2, c2, rfl, hq, ll, gl, nq, B3, e3, K3⟩
      refine ⟨_, rfl, q, l, rfl, SqL.of hq, by rw [ll]; exact Nat.lt_of_le_of_lt (show 29 + scales.length + 1 ≤ 50 by omega) (by decide), fun st l' nst nd hm ln => ?_⟩
      generalize hS : SetTx _ _ st l' = ob
      have sS := same_more (x := ob) (Same.refl G3) nst
      refine ⟨st, l', rfl, upd_same.trans (congrArg some hS.symm), by rw [ll] at ln; exact Nat.lt_of_le_of_lt (show l'.length ≤ 50 by omega) (by decide), _, rfl, q, _, rfl, .inl (SqL.of (sS _ _ hq)), _, _, rfl, rfl, _, rfl, ite2 (fun z => ?_) (fun z => ?_)⟩
      · have T3 : TabAt (upd G3 st ob) t ones tens hun scales o te sc := ⟨sS _ _ (K3 _ _ TA.tup tp), sS _ _ (K3 _ _ TA.lo op), sS _ _ (K3 _ _ TA.lt tep), sS _ _ (K3 _ _ TA.ls scp)⟩
        refine ⟨_, rfl, t, _, _, _, rfl, rfl, SqT.of T3.tup, rfl, _, rfl, t, _, _, _, rfl, rfl, SqT.of T3.tup, rfl, o, te, _, _, rfl, rfl, T3.lo, T3.lt, ?_, fun a na => ?_⟩
        · rw [List.length_map, List.length_map]
          show _ ≤ sizeLine
          omega
        have sa := same_more (x := .lst (ones.map V.str ++ tens.map V.str)) (Same.refl _) na
        refine ⟨_, rfl, t, _, _, _, rfl, rfl, SqT.of (sa _ _ T3.tup), rfl, by show 1 ≤ sizeLine; omega, fun b nb => ?_⟩
        have sb := same_more (x := .lst [.str hun]) sa nb
        refine ⟨a, b, _, _, rfl, rfl, upd_keep upd_same nb, upd_same, ?_, fun g ng => ?_⟩
        · rw [List.length_append, List.length_map, List.length_map]
          show _ + 1 ≤ sizeLine
          omega
        have sg := same_more (x := .lst (ones.map V.str ++ tens.map V.str ++ [.str hun])) sb ng
        refine ⟨_, rfl, t, _, _, _, rfl, rfl, SqT.of (sg _ _ T3.tup), rfl, g, sc, _, _, rfl, rfl, upd_same, sg _ _ T3.ls, ?_, fun e ne => ?_⟩
        · rw [List.length_append, List.length_append, List.length_map, List.length_map, List.length_map]
          show _ + 1 + _ ≤ sizeLine
          omega
        have se := same_more (x := .lst (ones.map V.str ++ tens.map V.str ++ [.str hun] ++ scales.map V.str)) sg ne
        have he := upd_same (H := upd (upd (upd (upd G3 st ob) a (.lst (ones.map V.str ++ tens.map V.str))) b (.lst [.str hun])) g (.lst (ones.map V.str ++ tens.map V.str ++ [.str hun]))) (a := e) (o := .lst (ones.map V.str ++ tens.map V.str ++ [.str hun] ++ scales.map V.str))
        rw [catE] at he
        have fe := Same.free sg ne
        generalize hG5 : upd (upd (upd (upd (upd G3 st ob) a (.lst (ones.map V.str ++ tens.map V.str))) b (.lst [.str hun])) g (.lst (ones.map V.str ++ tens.map V.str ++ [.str hun]))) e (.lst (ones.map V.str ++ tens.map V.str ++ [.str hun] ++ scales.map V.str)) = G5 at se
        have he : G5 e = some (.lst (row.map V.str)) := by rw [← hG5, upd_same, catE]
        have K5 : KeepP p H G5 := K3.trans ((KeepP.of sS).trans (KeepP.of se))
        have B5 := (B3.same sS).same se
        refine ⟨e, rfl, ⟨_, SqL.of he⟩, fun L nL => ?_⟩
        refine lc_list (K := K) (a := e) (xs := row.map V.str) (fun i G => G L = some (.lst (((row.take i).map (frW 113)).map V.str)) ∧ Same G5 G)
            ⟨upd_same, same_new nL⟩ (fun i G _ ⟨_, kk⟩ => SqL.of (kk _ _ he)) ?_ ?_
        · rintro i y G4 hi ⟨hL, k4⟩
          obtain ⟨x, hx, rfl⟩ := str_at hi
          have il := (List.getElem?_eq_some_iff.mp hx).1
          have xm := List.mem_of_getElem? hx
          refine ⟨rfl, _, rfl, _, _, rfl, rfl, ?_, ?_⟩
          · show (1 : Nat) + x.length ≤ sizeLine
            have := near_len (near x xm)
            omega
          refine ⟨_, hL, ?_, ?_, fun q' o' e' => ?_⟩
          · rw [List.length_map, List.length_map, List.length_take]
            show min i row.length < sizeLine
            omega
          · rw [upd_same, List.take_add_one, hx, List.map_append, List.map_append]
            rfl
          · rw [upd_ne (ne_of_none e' nL)]
            exact k4 _ _ e'
        · rintro G4 ⟨hL, k4⟩
          rw [List.length_map, List.take_length] at hL
          exact ⟨L, _, d2, c2, rfl, hL, fr_row (c := 113) (by decide) good near, by rw [List.length_map]; exact rl, fun h => absurd h (by omega), K5.free ⟨_, B5.at_⟩ nL, B5.same k4, by omega, K5.trans (KeepP.of k4)⟩
      · have ge : ¬ ((l'.length : Nat) : Int) < ((l.map V.str).length : Nat) := fun h => z (decide_eq_true h)
        rw [List.length_map] at ge
        have pm := perm_of_fill l' l nd (fun x hx => (hm x).mp hx) (by omega)
        exact ⟨q, l, d2, c2, rfl, sS _ _ hq, ⟨pm.nodup_iff.mpr nd, gl⟩, ll, fun h => absurd h (by omega), nq, B3.same sS, by omega, K3.trans (KeepP.of sS)⟩
    rintro τ G2' ⟨q, l, d2, c2, rfl, hq, gl, ll, nearl, nq, B3, e3, K3⟩
    refine ⟨fun τ G => ∃ (q : Addr) (l : List Str) (d2 c2 : Int), τ = [some (.ref p), some (.ref t), some (.int way), some (.ref q), none, none, none, none] ∧ G q = some (.lst (l.map V.str)) ∧ GoodRow l ∧ l.length = 29 + scales.length ∧ (3 ≤ way → ∀ x ∈ l, nearOk x = true) ∧ H q = none ∧ RngAtD G p d2 sd c2 ∧ c2 ≤ c + 110 ∧ KeepP p H G, ?_, ?_⟩
    · refine ⟨_, rfl, rfl, _, rfl, ite2 (fun z => ?_) (fun z => ⟨q, l, d2, c2, rfl, hq, gl, ll, fun h => nearl (by omega), nq, B3, by omega, K3⟩)⟩
      have wayE : way = 2 := by
        have z1 := of_decide_eq_true z
        first | exact z1 | exact V.int.inj z1
      have nearl := nearl (by omega)
      have qp : q ≠ p := fun h => by
        rw [h, B.at_] at nq
        cases nq
      refine ⟨_, rfl, _, rfl, p, d2, sd, c2, 28, rfl, B3, by decide, small (by decide), by omega, fun r d4 c4 G4 r0 r1 e4 B4 K4 => ?_⟩
      obtain ⟨kk, rfl⟩ : ∃ kk : Nat, r = (kk : Int) := ⟨r.toNat, by omega⟩
      have hk : kk < l.length := by first | omega | (rw [List.length_map] at r1; omega)
      obtain ⟨x, hx⟩ : ∃ x, l[kk]? = some x := ⟨_, List.getElem?_eq_getElem hk⟩
      have xm := List.mem_of_getElem? hx
      have hq4 := K4 _ _ hq qp
      refine ⟨q, _, _, _, rfl, rfl, SqL.of hq4, atI_nat (v := .str x) (by rw [List.getElem?_map, hx]; rfl), _, _, rfl, rfl, ?_, by show 3 ≤ sizeLine; omega, fun L nL => ?_⟩
      · show x.length + 5 ≤ sizeLine
        have := near_len (nearl x xm)
        omega
      have Lp : L ≠ p := B4.ne nL
      have sL := same_more (x := .lst [.str "zzzzzzzz", .str "aaaaaaaa", .str (tailA x)]) (Same.refl G4) nL
      refine ⟨_, rfl, p, d4, sd, c4, 3, rfl, B4.same sL, by decide, small (by decide), by omega, fun r2 d5 c5 G5 r20 r21 e5 B5 K5 => ?_⟩
      obtain ⟨y, hy, gy, ny⟩ := pick3 (gl.ok x xm) (nearl x xm) r20 r21
      have hq5 := K5 _ _ (sL _ _ hq4) qp
      refine ⟨L, _, _, _, rfl, rfl, SqL.of (K5 _ _ upd_same Lp), hy, _, rfl, q, _, 28, 28, rfl, rfl, hq5, ixN_of (k := 28) (by rw [List.length_map]; show 28 < l.length; omega), ?_⟩
      refine ⟨q, l.set 28 y, d5, c5, rfl, ?_, set_good gl nearl gy ny, by rw [List.length_set]; exact ll, fun h => absurd h (by omega), nq, ?_, by omega, fun v ob ev nv => ?_⟩
      · rw [upd_same, List.map_set]
      · exact ⟨by rw [upd_ne qp.symm]; exact B5.at_, B5.d0, B5.s0, B5.s1, B5.c0⟩
      · rw [upd_ne (ne_of_none ev nq)]
        exact K5 _ _ (sL _ _ (K4 _ _ (K3 _ _ ev nv) nv)) nv
    rintro τ G3' ⟨q, l, d2, c2, rfl, hq, gl, ll, nearl, nq, B3, e3, K3⟩
    refine ⟨fun τ G => ∃ (q : Addr) (l : List Str) (d2 c2 : Int), τ = [some (.ref p), some (.ref t), some (.int way), some (.ref q), none, none, none, none] ∧ G q = some (.lst (l.map V.str)) ∧ GoodRow l ∧ l.length = 29 + scales.length ∧ (4 ≤ way → ∀ x ∈ l, nearOk x = true) ∧ H q = none ∧ RngAtD G p d2 sd c2 ∧ c2 ≤ c + 120 ∧ KeepP p H G, ?_, ?_⟩
    · refine ⟨_, rfl, rfl, _, rfl, ite2 (fun z => ?_) (fun z => ⟨q, l, d2, c2, rfl, hq, gl, ll, fun h => nearl (by omega), nq, B3, by omega, K3⟩)⟩
      have wayE : way = 3 := by
        have z1 := of_decide_eq_true z
        first | exact z1 | exact V.int.inj z1
      have nearl := nearl (by omega)
      have qp : q ≠ p := fun h => by
        rw [h, B.at_] at nq
        cases nq
      refine ⟨_, rfl, _, rfl, _, rfl, q, _, rfl, .inl (SqL.of hq), p, d2, sd, c2, _, rfl, B3, by rw [List.length_map]; omega, small (by rw [List.length_map]; omega), by omega, fun r d4 c4 G4 r0 r1 e4 B4 K4 => ?_⟩
      obtain ⟨kk, rfl⟩ : ∃ kk : Nat, r = (kk : Int) := ⟨r.toNat, by omega⟩
      have hk : kk < l.length := by first | omega | (rw [List.length_map] at r1; omega)
      obtain ⟨x, hx⟩ : ∃ x, l[kk]? = some x := ⟨_, List.getElem?_eq_getElem hk⟩
      have xm := List.mem_of_getElem? hx
      have hq4 := K4 _ _ hq qp
      refine ⟨q, _, _, _, rfl, rfl, SqL.of hq4, atI_nat (v := .str x) (by rw [List.getElem?_map, hx]; rfl), _, _, rfl, rfl, ?_, by show 3 ≤ sizeLine; omega, fun L nL => ?_⟩
      · show x.length + 5 ≤ sizeLine
        have := near_len (nearl x xm)
        omega
      have Lp : L ≠ p := B4.ne nL
      have sL := same_more (x := .lst [.str "zzzzzzzz", .str "aaaaaaaa", .str (tailA x)]) (Same.refl G4) nL
      refine ⟨_, rfl, p, d4, sd, c4, 3, rfl, B4.same sL, by decide, small (by decide), by omega, fun r2 d5 c5 G5 r20 r21 e5 B5 K5 => ?_⟩
      obtain ⟨y, hy, gy, ny⟩ := pick3 (gl.ok x xm) (nearl x xm) r20 r21
      have hq5 := K5 _ _ (sL _ _ hq4) qp
      refine ⟨L, _, _, _, rfl, rfl, SqL.of (K5 _ _ upd_same Lp), hy, _, rfl, q, _, 0, 0, rfl, rfl, hq5, ixN_of (k := 0) (by rw [List.length_map]; show 0 < l.length; omega), ?_⟩
      refine ⟨q, l.set 0 y, d5, c5, rfl, ?_, set_good gl nearl gy ny, by rw [List.length_set]; exact ll, fun h => absurd h (by omega), nq, ?_, by omega, fun v ob ev nv => ?_⟩
      · rw [upd_same, List.map_set]
      · exact ⟨by rw [upd_ne qp.symm]; exact B5.at_, B5.d0, B5.s0, B5.s1, B5.c0⟩
      · rw [upd_ne (ne_of_none ev nq)]
        exact K5 _ _ (sL _ _ (K4 _ _ (K3 _ _ ev nv) nv)) nv
    rintro τ G4' ⟨q, l, d2, c2, rfl, hq, gl, ll, _, nq, B3, e3, K3⟩
    have qp : q ≠ p := fun h => by
      rw [h, B.at_] at nq
      cases nq
    refine ⟨fun τ G => ∃ (l : List Str) (d2 c2 : Int) (x5 x6 x7 : Option V), τ = [some (.ref p), some (.ref t), some (.int way), some (.ref q), none, x5, x6, x7] ∧ G q = some (.lst (l.map V.str)) ∧ GoodRow l ∧ l.length = 29 + scales.length ∧ RngAtD G p d2 sd c2 ∧ c2 ≤ c + 200 ∧ KeepP p H G, ?_, ?_⟩
    · refine ⟨_, rfl, _, _, rfl, rfl, _, rfl, ite2 (fun z => ?_) (fun z => ⟨l, d2, c2, none, none, none, rfl, hq, gl, ll, B3, by omega, K3⟩)⟩
      have way4 : 3 < way := of_decide_eq_true z
      refine ⟨_, rfl, _, _, rfl, rfl, way - 3, rfl, by omega, by omega, for_range (lo := 0) (n := (way - 3).toNat) (fun i σ G => ∃ (l : List Str) (d2 c2 : Int) (x5 x6 x7 : Option V), σ = [some (.ref p), some (.ref t), some (.int way), some (.ref q), none, x5, x6, x7] ∧ G q = some (.lst (l.map V.str)) ∧ GoodRow l ∧ l.length = 29 + scales.length ∧ RngAtD G p d2 sd c2 ∧ c2 ≤ c + 120 + 2 * (i : Int) ∧ KeepP p H G) ⟨l, d2, c2, none, none, none, rfl, hq, gl, ll, B3, by omega, K3⟩ ?_ ?_⟩
      · rintro i σ G hi ⟨l, d2, c2, x5, x6, x7, rfl, hq, gl, ll, B3, e3, K3⟩
        refine ⟨_, rfl, _, rfl, q, _, rfl, .inl (SqL.of hq), p, d2, sd, c2, _, rfl, B3, by rw [List.length_map]; omega, small (by rw [List.length_map]; omega), by omega, fun r d4 c4 G4 r0 r1 e4 B4 K4 => ?_⟩
        have hq4 := K4 _ _ hq qp
        refine ⟨_, rfl, _, rfl, q, _, rfl, .inl (SqL.of hq4), p, d4, sd, c4, _, rfl, B4, by rw [List.length_map]; omega, small (by rw [List.length_map]; omega), by omega, fun u d5 c5 G5 u0 u1 e5 B5 K5 => ?_⟩
        have hq5 := K5 _ _ hq4 qp
        rw [List.length_map] at r1 u1
        obtain ⟨k1, rfl⟩ : ∃ kk : Nat, r = (kk : Int) := ⟨r.toNat, by omega⟩
        obtain ⟨k2, rfl⟩ : ∃ kk : Nat, u = (kk : Int) := ⟨u.toNat, by omega⟩
        have h1 : k1 < l.length := by omega
        have h2 : k2 < l.length := by omega
        refine ⟨_, _, rfl, ?_⟩
        refine ⟨_, rfl, _, rfl, q, _, _, _, rfl, rfl, SqL.of hq5, atI_nat (v := .str l[k2]) (by rw [List.getElem?_map, List.getElem?_eq_getElem h2]; rfl), _, rfl, _, rfl, q, _, _, _, rfl, rfl, SqL.of hq5, atI_nat (v := .str l[k1]) (by rw [List.getElem?_map, List.getElem?_eq_getElem h1]; rfl), by show 2 ≤ sizeLine; omega, fun T nT => ?_⟩
        have qT : q ≠ T := ne_of_none hq5 nT
        have pT : T ≠ p := B5.ne nT
        have hq6 := upd_keep (x := .tup [.str l[k2], .str l[k1]]) hq5 nT
        refine ⟨T, _, rfl, SqT.of upd_same, rfl, _, _, rfl, _, rfl, _, rfl, q, _, k1, k1, rfl, rfl, hq6, ixN_of (k := k1) (by rw [List.length_map]; exact h1), _, _, rfl, _, rfl, _, rfl, q, _, k2, k2, rfl, rfl, upd_same, ixN_of (k := k2) (by rw [List.length_set, List.length_map]; exact h2), rfl, ?_⟩
        refine ⟨(l.set k1 l[k2]).set k2 l[k1], d5, c5, _, _, _, rfl, ?_, gl.perm (List.set_set_perm h1 h2), by rw [List.length_set, List.length_set]; exact ll, ?_, by omega, fun v ob ev nv => ?_⟩
        · rw [upd_same, List.map_set, List.map_set]
        · exact ⟨by rw [upd_ne qp.symm, upd_ne qp.symm, upd_ne pT.symm]; exact B5.at_, B5.d0, B5.s0, B5.s1, B5.c0⟩
        · rw [upd_ne (ne_of_none ev nq), upd_ne (ne_of_none ev nq)]
          exact upd_keep (K5 _ _ (K4 _ _ (K3 _ _ ev nv) nv) nv) nT
      · rintro σ G ⟨l, d2, c2, x5, x6, x7, rfl, hq, gl, ll, B3, e3, K3⟩
        exact ⟨l, d2, c2, x5, x6, x7, rfl, hq, gl, ll, B3, by omega, K3⟩
    rintro τ G9 ⟨fo, d9, c9, x5, x6, x7, rfl, hf, g, fl', B9, e9, K9'⟩
    obtain ⟨hun', hh⟩ : ∃ hun', fo[28]? = some hun' := ⟨_, List.getElem?_eq_getElem (by omega)⟩
    have free9 : ∀ {x : Addr}, G9 x = none → H x = none := fun {x} nn => K9'.free ⟨_, B9.at_⟩ nn
    refine ⟨_, rfl, _, rfl, q, _, rfl, SqL.of hf, fun a1 n1 => ?_⟩
    have s1 := same_more (x := .lst (cutV (fo.map V.str) none (some 20))) (Same.refl G9) n1
    have h1 : upd G9 a1 (.lst (cutV (fo.map V.str) none (some 20))) a1 = some (.lst ((fo.take 20).map V.str)) := upd_same.trans (congrArg (fun z => some (HO.lst z)) (cut_a (k := 20) (by omega)))
    generalize upd G9 a1 (.lst (cutV (fo.map V.str) none (some 20))) = I1 at s1 h1
    refine ⟨_, rfl, _, rfl, _, rfl, q, _, rfl, SqL.of (s1 _ _ hf), fun a2 n2 => ?_⟩
    have s2' := same_more (x := .lst (cutV (fo.map V.str) (some 20) (some 28))) s1 n2
    have h2 : upd I1 a2 (.lst (cutV (fo.map V.str) (some 20) (some 28))) a2 = some (.lst (((fo.drop 20).take 8).map V.str)) := upd_same.trans (congrArg (fun z => some (HO.lst z)) (cut_b (k := 20) (j := 28) (by omega) (by omega)))
    have h1' := upd_keep (x := .lst (cutV (fo.map V.str) (some 20) (some 28))) h1 n2
    have d12 : a1 ≠ a2 := ne_of_none h1 n2
    have m2 := Same.free s1 n2
    generalize upd I1 a2 (.lst (cutV (fo.map V.str) (some 20) (some 28))) = I2 at s2' h2 h1'
    refine ⟨_, rfl, q, _, _, _, rfl, rfl, SqL.of (s2' _ _ hf), atI_nat (j := 28) (v := .str hun') (by rw [List.getElem?_map, hh]; rfl), ?_⟩
    refine ⟨_, rfl, _, rfl, q, _, rfl, SqL.of (s2' _ _ hf), fun a3 n3 => ?_⟩
    have s3' := same_more (x := .lst (cutV (fo.map V.str) (some 29) none)) s2' n3
    have h3 : upd I2 a3 (.lst (cutV (fo.map V.str) (some 29) none)) a3 = some (.lst ((fo.drop 29).map V.str)) := upd_same.trans (congrArg (fun z => some (HO.lst z)) (cut_c (k := 29) (by omega)))
    have h1'' := upd_keep (x := .lst (cutV (fo.map V.str) (some 29) none)) h1' n3
    have h2'' := upd_keep (x := .lst (cutV (fo.map V.str) (some 29) none)) h2 n3
    have d13 : a1 ≠ a3 := ne_of_none h1' n3
    have d23 : a2 ≠ a3 := ne_of_none h2 n3
    have m3 := Same.free s2' n3
    generalize upd I2 a3 (.lst (cutV (fo.map V.str) (some 29) none)) = I3 at s3' h3 h1'' h2''
    refine ⟨by show 4 ≤ sizeLine; decide, fun t nt => ?_⟩
    refine k t a1 a2 a3 (fo.take 20) ((fo.drop 20).take 8) hun' (fo.drop 29) d9 c9 _ ⟨free9 (Same.free s3' nt), free9 n1, free9 m2, free9 m3, d12, d13, d23, ⟨upd_same, upd_keep h1'' nt, upd_keep h2'' nt, upd_keep h3 nt⟩, ?_, ?_, ?_⟩ ?_ (B9.same (same_more s3' nt)) (by omega) (K9'.trans (KeepP.of (same_more s3' nt)))
    · rw [List.length_take]
      omega
    · rw [List.length_take, List.length_drop]
      omega
    · rw [row_of hh]
      exact g
    · rw [List.length_drop]
      omega

end
end LB
set_option Elab.async false
set_option linter.all false
set_option maxRecDepth 100000
set_option maxHeartbeats 4000000
/-! min and max of a list of texts. -/
namespace Wk
open PySem PySem.Spec PyProof.Rows L2
/-- less, of texts -/
abbrev lessT (x y : Str) : Prop := x.cps.toList < y.cps.toList
theorem lessT_irr (x : Str) : ¬ lessT x x := List.lt_irrefl _
theorem minT : ∀ (xs : List Str) (x : Str), ∃ m, PySem.W.minD (.str x) (xs.map PyData.str) = .str m ∧ m ∈ x :: xs ∧ ∀ y ∈ x :: xs, ¬ lessT y m
  | [], x => ⟨x, rfl, List.mem_cons_self, fun y hy => by rw [List.mem_singleton.mp hy]; exact lessT_irr x⟩
  | z :: xs, x => by
    have e : PySem.W.minD (.str x) ((z :: xs).map PyData.str) = PySem.W.minD (if lessT z x then .str z else .str x) (xs.map PyData.str) := by
      show List.foldl _ _ _ = List.foldl _ _ _
      rw [List.map_cons, List.foldl_cons, PySem.W.dataLt_str]
      by_cases c : lessT z x
      · rw [if_pos c, if_pos (decide_eq_true c)]
      · rw [if_neg c, if_neg (fun w => c (of_decide_eq_true w))]
    by_cases c : lessT z x
    · rw [if_pos c] at e
      obtain ⟨m, h1, h2, h3⟩ := minT xs z
      refine ⟨m, e.trans h1, List.mem_cons_of_mem _ h2, fun y hy => ?_⟩
      rcases List.mem_cons.mp hy with rfl | hy
      · intro w
        exact h3 z List.mem_cons_self (List.lt_trans c w)
      · exact h3 y hy
    · rw [if_neg c] at e
      obtain ⟨m, h1, h2, h3⟩ := minT xs x
      refine ⟨m, e.trans h1, ?_, fun y hy => ?_⟩
      · rcases List.mem_cons.mp h2 with rfl | h2
        · exact List.mem_cons_self
        · exact List.mem_cons_of_mem _ (List.mem_cons_of_mem _ h2)
      · rcases List.mem_cons.mp hy with rfl | hy
        · exact h3 y List.mem_cons_self
        rcases List.mem_cons.mp hy with rfl | hy
        · intro w
          have n := h3 x List.mem_cons_self
          exact n (List.lt_of_le_of_lt (List.not_lt.mp c) w)
        · exact h3 y (List.mem_cons_of_mem _ hy)
theorem maxT : ∀ (xs : List Str) (x : Str), ∃ m, PySem.W.maxD (.str x) (xs.map PyData.str) = .str m ∧ m ∈ x :: xs ∧ ∀ y ∈ x :: xs, ¬ lessT m y
  | [], x => ⟨x, rfl, List.mem_cons_self, fun y hy => by rw [List.mem_singleton.mp hy]; exact lessT_irr x⟩
  | z :: xs, x => by
    have e : PySem.W.maxD (.str x) ((z :: xs).map PyData.str) = PySem.W.maxD (if lessT x z then .str z else .str x) (xs.map PyData.str) := by
      show List.foldl _ _ _ = List.foldl _ _ _
      rw [List.map_cons, List.foldl_cons, PySem.W.dataLt_str]
      by_cases c : lessT x z
      · rw [if_pos c, if_pos (decide_eq_true c)]
      · rw [if_neg c, if_neg (fun w => c (of_decide_eq_true w))]
    by_cases c : lessT x z
    · rw [if_pos c] at e
      obtain ⟨m, h1, h2, h3⟩ := maxT xs z
      refine ⟨m, e.trans h1, List.mem_cons_of_mem _ h2, fun y hy => ?_⟩
      rcases List.mem_cons.mp hy with rfl | hy
      · intro w
        exact h3 z List.mem_cons_self (List.lt_trans w c)
      · exact h3 y hy
    · rw [if_neg c] at e
      obtain ⟨m, h1, h2, h3⟩ := maxT xs x
      refine ⟨m, e.trans h1, ?_, fun y hy => ?_⟩
      · rcases List.mem_cons.mp h2 with rfl | h2
        · exact List.mem_cons_self
        · exact List.mem_cons_of_mem _ (List.mem_cons_of_mem _ h2)
      · rcases List.mem_cons.mp hy with rfl | hy
        · exact h3 y List.mem_cons_self
        rcases List.mem_cons.mp hy with rfl | hy
        · intro w
          have n := h3 x List.mem_cons_self
          exact c (List.lt_of_le_of_lt (List.not_lt.mp n) w)
        · exact h3 y (List.mem_cons_of_mem _ hy)
theorem alike_texts (xs : List Str) : PySem.W.AlikeAll (xs.map PyData.str) := by
  refine ⟨fun x hx y hy => ?_, fun x hx => ?_⟩
  · obtain ⟨a, _, rfl⟩ := List.mem_map.mp hx
    obtain ⟨b, _, rfl⟩ := List.mem_map.mp hy
    rfl
  · obtain ⟨a, _, rfl⟩ := List.mem_map.mp hx
    intro z
    cases z
/-- min(xs), max(xs) of a list of texts that is not empty -/
def rMinT (K : PySem.W.Frag) : List V → Hp → VK → Prop := fun vs H Q => ∃ (a : Addr) (x : Str) (xs : List Str), vs = [V.ref a] ∧ SqL K H a ((x :: xs).map V.str) ∧ ∀ m, m ∈ x :: xs → (∀ y ∈ x :: xs, ¬ lessT y m) → Q (.str m) H
def rMaxT (K : PySem.W.Frag) : List V → Hp → VK → Prop := fun vs H Q => ∃ (a : Addr) (x : Str) (xs : List Str), vs = [V.ref a] ∧ SqL K H a ((x :: xs).map V.str) ∧ ∀ m, m ∈ x :: xs → (∀ y ∈ x :: xs, ¬ lessT m y) → Q (.str m) H
section
variable {X : Cx}
theorem cr_minT (hc : X.calm = true) (hu : X.A.units + 64 < cLine) : CallR X (.builtin "min") (rMinT X.K) := by
  intro pins s σ H vs us Q I r h
  obtain ⟨a, x, xs, rfl, hs, q⟩ := h
  obtain ⟨its, rv, hl, _⟩ := I.list hs
  rw [Vals.ref1 r]
  obtain ⟨as, hr⟩ := Dp.readsAll I ((x :: xs).map PyData.str) _ its (strs_dpA (x :: xs)) rv
  obtain ⟨m, e, h1, h2⟩ := minT xs x
  refine PySem.W.min_list_data (I.ok.hd hc) hl.isList (x := .str x) (xs := xs.map PyData.str) (as := as) (by simpa using hr) (alike_texts (x :: xs)) ?_ fun i v h' tk bs hv hrd hk => ?_
  · rw [show PyData.str x :: xs.map PyData.str = (x :: xs).map PyData.str from rfl, depth_strs]
    omega
  · rw [e] at hrd
    cases hrd
    exact ⟨.str m, H, I.kept hk, ⟨_, rfl⟩, q m h1 h2⟩
theorem cr_maxT (hc : X.calm = true) (hu : X.A.units + 64 < cLine) : CallR X (.builtin "max") (rMaxT X.K) := by
  intro pins s σ H vs us Q I r h
  obtain ⟨a, x, xs, rfl, hs, q⟩ := h
  obtain ⟨its, rv, hl, _⟩ := I.list hs
  rw [Vals.ref1 r]
  obtain ⟨as, hr⟩ := Dp.readsAll I ((x :: xs).map PyData.str) _ its (strs_dpA (x :: xs)) rv
  obtain ⟨m, e, h1, h2⟩ := maxT xs x
  refine PySem.W.max_list_data (I.ok.hd hc) hl.isList (x := .str x) (xs := xs.map PyData.str) (as := as) (by simpa using hr) (alike_texts (x :: xs)) ?_ fun i v h' tk bs hv hrd hk => ?_
  · rw [show PyData.str x :: xs.map PyData.str = (x :: xs).map PyData.str from rfl, depth_strs]
    omega
  · rw [e] at hrd
    cases hrd
    exact ⟨.str m, H, I.kept hk, ⟨_, rfl⟩, q m h1 h2⟩
end
end Wk
set_option Elab.async false
set_option linter.all false
set_option maxRecDepth 100000
set_option maxHeartbeats 4000000
/-! min and max of a tuple of two numbers. -/
namespace Wk
open PySem PySem.Spec PyProof.Rows L2
def rMin2 (K : PySem.W.Frag) : List V → Hp → VK → Prop := fun vs H Q => ∃ (a : Addr) (x y : Int), vs = [V.ref a] ∧ SqT K H a [.int x, .int y] ∧ Q (.int (if y < x then y else x)) H
def rMax2 (K : PySem.W.Frag) : List V → Hp → VK → Prop := fun vs H Q => ∃ (a : Addr) (x y : Int), vs = [V.ref a] ∧ SqT K H a [.int x, .int y] ∧ Q (.int (if x < y then y else x)) H
theorem alike_two (x y : Int) : PySem.W.AlikeAll [PyData.int x, PyData.int y] := by
  refine ⟨fun a ha b hb => ?_, fun a ha => ?_⟩
  · rcases List.mem_cons.mp ha with rfl | ha
    · rcases List.mem_cons.mp hb with rfl | hb
      · rfl
      · rw [List.mem_singleton.mp hb]
        rfl
    · rw [List.mem_singleton.mp ha]
      rcases List.mem_cons.mp hb with rfl | hb
      · rfl
      · rw [List.mem_singleton.mp hb]
        rfl
  · rcases List.mem_cons.mp ha with rfl | ha
    · intro z
      cases z
    · rw [List.mem_singleton.mp ha]
      intro z
      cases z
theorem depth_two (x y : Int) : PyData.depthAll [PyData.int x, PyData.int y] = 0 := rfl
section
variable {X : Cx}
theorem two_dp {K : PySem.W.Frag} {H : Hp} (x y : Int) : DpAll K H [V.int x, V.int y] [PyData.int x, PyData.int y] := .cons (.int x) (.cons (.int y) .nil)
theorem cr_min2 (hc : X.calm = true) (hu : X.A.units + 64 < cLine) : CallR X (.builtin "min") (rMin2 X.K) := by
  intro pins s σ H vs us Q I r h
  obtain ⟨a, x, y, rfl, hs, q⟩ := h
  obtain ⟨its, rv, hl, _⟩ := I.tuple hs
  rw [Vals.ref1 r]
  obtain ⟨as, hr⟩ := Dp.readsAll I [PyData.int x, PyData.int y] _ its (two_dp x y) rv
  refine PySem.W.min_tuple_data (I.ok.hd hc) hl (x := .int x) (xs := [.int y]) (as := as) (by simpa using hr) (alike_two x y) ?_ fun i v h' tk bs hv hrd hk => ?_
  · rw [depth_two]
    omega
  · have e : PySem.W.minD (.int x) [.int y] = .int (if y < x then y else x) := by
      show (if PySem.W.dataLt (.int y) (.int x) = true then PyData.int y else PyData.int x) = _
      rw [PySem.W.dataLt_int]
      by_cases c : y < x
      · rw [if_pos c, if_pos (decide_eq_true c)]
      · rw [if_neg c, if_neg (fun w => c (of_decide_eq_true w))]
    rw [e] at hrd
    cases hrd
    exact ⟨.int _, H, I.kept hk, ⟨_, rfl⟩, q⟩
theorem cr_max2 (hc : X.calm = true) (hu : X.A.units + 64 < cLine) : CallR X (.builtin "max") (rMax2 X.K) := by
  intro pins s σ H vs us Q I r h
  obtain ⟨a, x, y, rfl, hs, q⟩ := h
  obtain ⟨its, rv, hl, _⟩ := I.tuple hs
  rw [Vals.ref1 r]
  obtain ⟨as, hr⟩ := Dp.readsAll I [PyData.int x, PyData.int y] _ its (two_dp x y) rv
  refine PySem.W.max_tuple_data (I.ok.hd hc) hl (x := .int x) (xs := [.int y]) (as := as) (by simpa using hr) (alike_two x y) ?_ fun i v h' tk bs hv hrd hk => ?_
  · rw [depth_two]
    omega
  · have e : PySem.W.maxD (.int x) [.int y] = .int (if x < y then y else x) := by
      show (if PySem.W.dataLt (.int x) (.int y) = true then PyData.int y else PyData.int x) = _
      rw [PySem.W.dataLt_int]
      by_cases c : x < y
      · rw [if_pos c, if_pos (decide_eq_true c)]
      · rw [if_neg c, if_neg (fun w => c (of_decide_eq_true w))]
    rw [e] at hrd
    cases hrd
    exact ⟨.int _, H, I.kept hk, ⟨_, rfl⟩, q⟩
end
end Wk
set_option Elab.async false
set_option linter.all false
set_option maxRecDepth 100000
set_option maxHeartbeats 4000000
/-! a op b op' c op'' d as a test. -/
namespace Wk
open PySem PySem.Spec PyProof.Rows L2
/-- its reading -/
def tChain3 (r r' r'' : R2) (ta tb tc td : TE) : TT := fun σ H Q => ta σ H fun x H1 => tb σ H1 fun y H2 => r x y H2 fun t1 H3 => ∃ k, t1 = .bl k ∧ (if k = true then tc σ H3 fun z H4 => r' y z H4 fun t2 H5 => ∃ k2, t2 = .bl k2 ∧
  (if k2 = true then td σ H5 fun v H6 => r'' z v H6 fun t3 H7 => ∃ k3, t3 = .bl k3 ∧ Q k3 H7 else Q false H5) else Q false H3)
theorem pt_chain3 {X : Cx} {a b c d : Expr} {pos : Pos} {ta tb tc td : TE} {o1 o2 o3 : CmpOp} {r r' r'' : R2} (h1 : OpR X (compareOp o1) r) (h2 : OpR X (compareOp o2) r') (h3 : OpR X (compareOp o3) r'') (ha : PE X a ta) (hb : PE X b tb) (hc : PE X c tc) (hd : PE X d td)
    (hm : lastMarks [o1, o2, o3] [b, c, d] = false := by with_unfolding_all rfl) : PT X (.Compare a [o1, o2, o3] [b, c, d] pos) (tChain3 r r' r'' ta tb tc td) := by
  refine ⟨fun pins s σ H Q I q => ?_⟩
  refine isTrue_chain (thn (ha.run pins s σ H _ I q) fun u1 s1 ⟨x, H1, I1, r1, q1⟩ => test_link (thn (hb.run pins s1 σ H1 _ I1 q1) fun u2 s2 ⟨y, H2, I2, r2, q2⟩ => thn (h1 pins s2 σ H2 x y u1 u2 _ I2 r1 r2 q2) fun w1 s3 ⟨t, H3, I3, r3, k, e, q3⟩ => ?_)) hm
  subst e
  cases r3
  refine wpAny_truthy_bool ?_
  cases k with
  | false => exact ite_ff ⟨H3, I3, q3⟩
  | true =>
    refine ite_tt (test_link (thn (hc.run pins s3 σ H3 _ I3 q3) fun u3 s4 ⟨z, H4, I4, r4, q4⟩ => thn (h2 pins s4 σ H4 y z u2 u3 _ I4 r2 r4 q4) fun w2 s5 ⟨t2, H5, I5, r5, k2, e2, q5⟩ => ?_))
    subst e2
    cases r5
    refine wpAny_truthy_bool ?_
    cases k2 with
    | false => exact ite_ff ⟨H5, I5, q5⟩
    | true =>
      refine ite_tt (test_last (thn (hd.run pins s5 σ H5 _ I5 q5) fun u4 s6 ⟨v, H6, I6, r6, q6⟩ => thn (h3 pins s6 σ H6 z v u3 u4 _ I6 r4 r6 q6) fun w3 s7 ⟨t3, H7, I7, r7, k3, e3, q7⟩ => ?_))
      subst e3
      cases r7
      exact wpAny_truthy_bool ⟨H7, I7, q7⟩
end Wk
set_option Elab.async false
set_option linter.all false
set_option maxRecDepth 100000
set_option maxHeartbeats 4000000
/-! Orders compared: what is told, and what may be. -/
namespace LB
open PySem L2 Wk
open Bg (Bg Wo)
def chD (ones tens : List Str) (hun : Str) (scales : List Str) : PyData := .tuple [.list (ones.map PyData.str), .list (tens.map PyData.str), .str hun, .list (scales.map PyData.str)]
theorem ch_dp {K : PySem.W.Frag} {H : Hp} {t o te sc : Addr} {ones tens : List Str} {hun : Str} {scales : List Str} (T : TabAt H t ones tens hun scales o te sc) : Dp K H (.ref t) (chD ones tens hun scales) :=
  .tup (SqT.of T.tup) (.cons (.lst (SqL.of T.lo) (wds_dp _)) (.cons (.lst (SqL.of T.lt) (wds_dp _)) (.cons (.str _) (.cons (.lst (SqL.of T.ls) (wds_dp _)) .nil))))
theorem ch_sh {ones tens : List Str} {hun : Str} {scales : List Str} (l1 : ones.length = 20) (l2 : tens.length = 8) (l3 : scales.length ≤ 20) (g : GoodRow (ones ++ (tens ++ hun :: scales))) : Sh 2000 2 (chD ones tens hun scales) := by
  have ok : ∀ x, GoodWord x → x.length ≤ 21 ∧ ∀ c ∈ x.cps.toList, c < 128 := fun x h => ⟨by have := h.2.1; omega, fun c hc => by have := h.2.2 c hc; omega⟩
  have a1 : ∀ x ∈ ones, x.length ≤ 21 ∧ ∀ c ∈ x.cps.toList, c < 128 := fun x hx => ok x (g.ok x (List.mem_append_left _ hx))
  have a2 : ∀ x ∈ tens, x.length ≤ 21 ∧ ∀ c ∈ x.cps.toList, c < 128 := fun x hx => ok x (g.ok x (List.mem_append_right _ (List.mem_append_left _ hx)))
  have a3 := ok hun (g.ok hun (List.mem_append_right _ (List.mem_append_right _ List.mem_cons_self)))
  have a4 : ∀ x ∈ scales, x.length ≤ 21 ∧ ∀ c ∈ x.cps.toList, c < 128 := fun x hx => ok x (g.ok x (List.mem_append_right _ (List.mem_append_right _ (List.mem_cons_of_mem _ hx))))
  refine Sh.mono (Sh.tup (ShA.cons (Sh.list (ShA.strs a1)) (ShA.cons (Sh.list (ShA.strs a2)) (ShA.cons ((Sh.str a3.1 a3.2).mono (Nat.le_refl _) (Nat.zero_le 1)) (ShA.cons (Sh.list (ShA.strs a4)) (ShA.nil.mono (Nat.le_refl _) (Nat.zero_le 1))))))) ?_ (Nat.le_refl _)
  omega
theorem ints_layO : ∀ l : List Int, PyData.canLayAll0 (l.map PyData.int) = true ∧ PyData.depthAll (l.map PyData.int) ≤ 1
  | [] => ⟨rfl, by decide⟩
  | x :: l => by
    obtain ⟨a, b⟩ := ints_layO l
    refine ⟨?_, ?_⟩
    · rw [List.map_cons, PyData.canLayAll0, a, Bool.and_true, PyData.canLay0]
    · rw [List.map_cons, PyData.depthAll, PyData.depth]
      omega
theorem ints_dpO {K : PySem.W.Frag} {H : Hp} : ∀ l : List Int, DpAll K H (l.map V.int) (l.map PyData.int)
  | [] => .nil
  | x :: l => .cons (.int x) (ints_dpO l)
/-- what comparisons of names can tell, as data -/
def shD (S es ls : List Int) : PyData := .list [.list (S.map PyData.int), .list (es.map PyData.int), .list (ls.map PyData.int)]
theorem shD_shaped (S es ls : List Int) : SeqAt.shaped (shD S es ls) = true := by
  obtain ⟨a, b⟩ := ints_layO S
  obtain ⟨c, d⟩ := ints_layO es
  obtain ⟨e, f⟩ := ints_layO ls
  unfold SeqAt.shaped shD
  simp only [PyData.canLay0, PyData.canLayAll0, a, c, e, PyData.depth, PyData.depthAll]
  simp
  omega
theorem ints_eqv : ∀ a b : List Int, PyData.eqvAll (a.map PyData.int) (b.map PyData.int) = decide (a = b)
  | [], [] => rfl
  | [], b :: bs => rfl
  | a :: as, [] => rfl
  | a :: as, b :: bs => by
    rw [List.map_cons, List.map_cons, PyData.eqvAll, PyData.eqv, ints_eqv as bs]
    by_cases h : a = b
    · subst h
      simp
    · simp [h]
theorem shD_eqv (S es ls S' es' ls' : List Int) : PyData.eqv (shD S es ls) (shD S' es' ls') = decide (S = S' ∧ es = es' ∧ ls = ls') := by
  unfold shD
  simp only [PyData.eqv, PyData.eqvAll, ints_eqv, Bool.and_true]
  by_cases h1 : S = S' <;> by_cases h2 : es = es' <;> by_cases h3 : ls = ls' <;> simp [h1, h2, h3]
theorem asc_eq {a b : List Int} (p : a.Perm b) (ha : a.Pairwise (· ≤ ·)) (hb : b.Pairwise (· ≤ ·)) : a = b :=
  List.Perm.eq_of_pairwise (le := fun x y : Int => x ≤ y) (fun x y _ _ h1 h2 => by omega) ha hb p
/-- all orders are the same exactly if the shapes are -/
theorem same_iff {n : Nat} {ws ws2 : List (Str × Wo)} (R : Row n (ws.map (·.2))) (T : Row n (ws2.map (·.2))) {es ls es2 ls2 : List Int} (e1 : es.Perm (earlyX (ws.map (·.2)))) (e2 : es.Pairwise (· ≤ ·)) (l1 : ls.Perm (lateX (ws.map (·.2)))) (l2 : ls.Pairwise (· ≤ ·))
    (e3 : es2.Perm (earlyX (ws2.map (·.2)))) (e4 : es2.Pairwise (· ≤ ·)) (l3 : ls2.Perm (lateX (ws2.map (·.2)))) (l4 : ls2.Pairwise (· ≤ ·)) :
    (∀ b ∈ bgs n, numsOf b ws = numsOf b ws2) ↔ ((ws.map (·.2)).filterMap o3 = (ws2.map (·.2)).filterMap o3 ∧ es = es2 ∧ ls = ls2) := by
  have b0 : ∀ {us : List (Str × Wo)}, Row n (us.map (·.2)) → numsOf (Bg.start n) us = (us.map (·.2)).filterMap o0 := fun r => by
    rw [nums_own]
    exact fm_congr fun x hx => own_b0 (r.mem x hx)
  have b1 : ∀ {us : List (Str × Wo)}, Row n (us.map (·.2)) → numsOf ⟨0, 1, 1, n + 1⟩ us = (us.map (·.2)).filterMap o1 := fun r => by
    rw [nums_own]
    exact fm_congr fun x hx => own_b1 (r.mem x hx)
  have b2 : ∀ {us : List (Str × Wo)}, Row n (us.map (·.2)) → numsOf ⟨0, 100, 100, n + 1⟩ us = (us.map (·.2)).filterMap o2 := fun r => by
    rw [nums_own]
    exact fm_congr fun x hx => own_b2 (r.mem x hx)
  constructor
  · intro h
    have q0 := h _ List.mem_cons_self
    have q1 := h _ (List.mem_cons_of_mem _ List.mem_cons_self)
    have q2 := h _ (List.mem_cons_of_mem _ (List.mem_cons_of_mem _ List.mem_cons_self))
    rw [b0 R, b0 T] at q0
    rw [b1 R, b1 T] at q1
    rw [b2 R, b2 T] at q2
    obtain ⟨a, c, d⟩ := same_shape R T q0 q1 q2
    refine ⟨a, asc_eq (e1.trans (c ▸ e3.symm)) e2 e4, asc_eq (l1.trans (d ▸ l3.symm)) l2 l4⟩
  · rintro ⟨h1, h2, h3⟩
    have le : (earlyX (ws.map (·.2))).length = (earlyX (ws2.map (·.2))).length := by rw [← e1.length_eq, ← e3.length_eq, h2]
    have ll : (lateX (ws.map (·.2))).length = (lateX (ws2.map (·.2))).length := by rw [← l1.length_eq, ← l3.length_eq, h3]
    obtain ⟨q0, q1, q2⟩ := same_orders R T h1 le ll
    intro b hb
    rcases List.mem_cons.mp hb with rfl | hb
    · rw [b0 R, b0 T, q0]
    rcases List.mem_cons.mp hb with rfl | hb
    · rw [b1 R, b1 T, q1]
    rw [List.mem_singleton.mp hb, b2 R, b2 T, q2]
/-- what may be told of two tables -/
def TellP (ones tens : List Str) (hun : Str) (scales : List Str) (ws : List (Str × Wo)) (ones2 tens2 : List Str) (hun2 : Str) (scales2 : List Str) (ws2 : List (Str × Wo)) (H : Hp) (v : V) : Prop :=
  (v = .non ∧ ∀ b ∈ bgs scales.length, numsOf b ws = numsOf b ws2) ∨ ∃ (T : Addr) (x y : Int), v = .ref T ∧ H T = some (.tup [.int x, .int y]) ∧ (¬ ∀ b ∈ bgs scales.length, numsOf b ws = numsOf b ws2) ∧ (0 ≤ x ∧ x < Bg.W (scales.length + 1)) ∧ (0 ≤ y ∧ y < Bg.W (scales.length + 1)) ∧ x ≠ y ∧
    ltL (nmL ones tens hun scales x) (nmL ones tens hun scales y) = true ∧ ltL (nmL ones2 tens2 hun2 scales2 y) (nmL ones2 tens2 hun2 scales2 x) = true
theorem TellP.same {ones tens : List Str} {hun : Str} {scales : List Str} {ws : List (Str × Wo)} {ones2 tens2 : List Str} {hun2 : Str} {scales2 : List Str} {ws2 : List (Str × Wo)} {H G : Hp} {v : V} (t : TellP ones tens hun scales ws ones2 tens2 hun2 scales2 ws2 H v) (s : Same H G) : TellP ones tens hun scales ws ones2 tens2 hun2 scales2 ws2 G v := by
  rcases t with h | ⟨T, x, y, e, h, r⟩
  · exact .inl h
  · exact .inr ⟨T, x, y, e, s _ _ h, r⟩
def spPartT : Sp := fun vs H Q _ => ∃ (t o te sc : Addr) (ones tens : List Str) (hun : Str) (scales : List Str) (t2 o2 te2 sc2 : Addr) (ones2 tens2 : List Str) (hun2 : Str) (scales2 : List Str) (ws1 ws2 : List (Str × Wo)), vs = [.ref t, .ref t2] ∧
  Tab H t ones tens hun scales o te sc ∧ Tab H t2 ones2 tens2 hun2 scales2 o2 te2 sc2 ∧ scales.length ≤ 21 ∧ scales.length = scales2.length ∧ Voc ones tens hun scales ws1 ∧ Voc ones2 tens2 hun2 scales2 ws2 ∧
  ∀ v H', Same H H' → TellP ones tens hun scales ws1 ones2 tens2 hun2 scales2 ws2 H' v → Q v H'
section
variable {P : Program} {w : World} {K : PySem.W.Frag} {mg : Str → Option Value} {base : Heap}
theorem ok_partT {f : Addr} {fd : FuncData} (F : FnOk P w K mg base CX0 5 f fd ["first", "second"] (spPartO K)) : FnOk P w K mg base CX0 5 f fd ["first", "second"] spPartT :=
  F.imp fun vs H Q E ⟨t, o, te, sc, ones, tens, hun, scales, t2, o2, te2, sc2, ones2, tens2, hun2, scales2, ws1, ws2, e, T1, T2, l21, len, V1, V2, k⟩ =>
    ⟨t, o, te, sc, ones, tens, hun, scales, t2, o2, te2, sc2, ones2, tens2, hun2, scales2, ws1, ws2, e, T1, T2, l21, len, V1, V2, fun h H' s => k _ _ s (.inl ⟨rfl, h⟩), fun T x y b j H' hb hx hy hi nT s hT => by
      obtain ⟨a, c, ne, l1, l2⟩ := pair_ok V1 V2 len hb hx hy hi
      refine k _ _ s (.inr ⟨T, x, y, rfl, hT, fun h => ?_, a, c, ne, l1, l2⟩)
      have R2 := V2.row
      rw [← len] at R2
      rw [h b hb] at hx hy
      exact self_inv (row_nodup R2 hb) hx hy hi⟩
end
end LB
set_option Elab.async false
set_option linter.all false
set_option maxRecDepth 100000
set_option maxHeartbeats 4000000
/-! Tables that order the numbers behind the three beginnings alike order all numbers alike. -/
namespace LB
open PySem L2 Wk
open Bg (Bg Wo)
theorem fol_low {b c : Bg} {m : Int} (ok : Bg.Ok b) (h : Bg.fol b (.low m) = some c) (m0 : 0 ≤ m) : b.g = 0 ∨ b.r ≥ 10 := by
  unfold Bg.fol at h
  simp only at h
  by_cases z : m = 0
  · rw [if_pos z] at h
    left
    obtain ⟨b1, b2, _⟩ := ok.bnd
    by_cases hb : Bg.has b = true
    · rw [if_pos hb] at h
      cases h
    · have : ¬ b.t + b.g > 0 := fun q => hb (by unfold Bg.has; rw [decide_eq_true q]; rfl)
      omega
  · rw [if_neg z] at h
    right
    by_cases z2 : m ≥ 10
    · rw [if_pos z2] at h
      split at h
      · omega
      · cases h
    · rw [if_neg z2] at h
      split at h
      · assumption
      · cases h
theorem fol_hun1 {b c : Bg} (h : Bg.fol b .hun = some c) : 0 < b.g ∧ b.g < 10 := by
  unfold Bg.fol at h
  simp only at h
  split at h
  · assumption
  · cases h
theorem fol_sc1 {b c : Bg} {i : Nat} (h : Bg.fol b (.sc i) = some c) : 0 < b.g := by
  unfold Bg.fol at h
  simp only at h
  split at h
  · rename_i z
    exact z.1
  · cases h
theorem fol_zero {b c : Bg} (ok : Bg.Ok b) (h : Bg.fol b (.low 0) = some c) : b.g = 0 := by
  unfold Bg.fol at h
  simp only at h
  rw [if_pos trivial] at h
  obtain ⟨b1, b2, _⟩ := ok.bnd
  by_cases hb : Bg.has b = true
  · rw [if_pos hb] at h
    cases h
  · have : ¬ b.t + b.g > 0 := fun q => hb (by unfold Bg.has; rw [decide_eq_true q]; rfl)
    omega
/-- any two words that may follow the same words may follow one of the three beginnings -/
theorem meet {n : Nat} {b c d : Bg} {x y : Wo} (ok : Bg.Ok b) (hx : x ∈ Bg.all n) (hy : y ∈ Bg.all n) (ne : x ≠ y) (h1 : Bg.fol b x = some c) (h2 : Bg.fol b y = some d) :
    ∃ b' ∈ bgs n, ∃ u v, ownO b' x = some u ∧ ownO b' y = some v := by
  have s0 : Bg.start n ∈ bgs n := List.mem_cons_self
  have s1 : (⟨0, 1, 1, n + 1⟩ : Bg) ∈ bgs n := List.mem_cons_of_mem _ List.mem_cons_self
  have s2 : (⟨0, 100, 100, n + 1⟩ : Bg) ∈ bgs n := List.mem_cons_of_mem _ (List.mem_cons_of_mem _ List.mem_cons_self)
  have t0 : ∀ {u v}, o0 x = some u → o0 y = some v → ∃ b' ∈ bgs n, ∃ u v, ownO b' x = some u ∧ ownO b' y = some v := fun {u v} a b => ⟨_, s0, u, v, (own_b0 hx).trans a, (own_b0 hy).trans b⟩
  have t1 : ∀ {u v}, o1 x = some u → o1 y = some v → ∃ b' ∈ bgs n, ∃ u v, ownO b' x = some u ∧ ownO b' y = some v := fun {u v} a b => ⟨_, s1, u, v, (own_b1 hx).trans a, (own_b1 hy).trans b⟩
  have t2 : ∀ {u v}, o2 x = some u → o2 y = some v → ∃ b' ∈ bgs n, ∃ u v, ownO b' x = some u ∧ ownO b' y = some v := fun {u v} a b => ⟨_, s2, u, v, (own_b2 hx).trans a, (own_b2 hy).trans b⟩
  have dig : 0 < b.g → b.g < 10 → ¬ b.r ≥ 10 := fun g0 g1 => by
    obtain ⟨_, ⟨_, q2, q3, _⟩ | ⟨_, q⟩⟩ := ok
    · omega
    · rcases q with ⟨h1, h2⟩ | ⟨h1, h2, h3⟩ | ⟨e, h1, h2, h3, h4⟩ | ⟨e, f, h1, h2, h3, h4, h5, h6⟩ | ⟨h1, h2, h3⟩ <;> omega
  have lowsc : ∀ {m : Int} {i : Nat} {c' d' : Bg}, 0 ≤ m → Bg.fol b (.low m) = some c' → Bg.fol b (.sc i) = some d' → m ≠ 0 := fun {m i c' d'} m0 q1 q2 e => by
    rw [e] at q1
    have := fol_zero ok q1
    have := fol_sc1 q2
    omega
  rcases all_cases hx with rfl | ⟨m, m0, m1, rfl⟩ | ⟨i, hi, rfl⟩
  · rcases all_cases hy with rfl | ⟨m', m0', m1', rfl⟩ | ⟨j, hj, rfl⟩
    · exact absurd rfl ne
    · obtain ⟨g0, g1⟩ := fol_hun1 h1
      rcases fol_low ok h2 m0' with z | z
      · omega
      · exact absurd z (dig g0 g1)
    · exact t1 rfl rfl
  · rcases all_cases hy with rfl | ⟨m', m0', m1', rfl⟩ | ⟨j, hj, rfl⟩
    · obtain ⟨g0, g1⟩ := fol_hun1 h2
      rcases fol_low ok h1 m0 with z | z
      · omega
      · exact absurd z (dig g0 g1)
    · exact t0 rfl rfl
    · exact t2 (u := 100 + m) (if_neg (lowsc m0 h1 h2)) rfl
  · rcases all_cases hy with rfl | ⟨m', m0', m1', rfl⟩ | ⟨j, hj, rfl⟩
    · exact t1 rfl rfl
    · exact t2 (v := 100 + m') rfl (if_neg (lowsc m0' h2 h1))
    · exact t1 rfl rfl
theorem pw_two {R1 R2 : Int → Int → Prop} {l : List Int} (p1 : l.Pairwise R1) (p2 : l.Pairwise R2) {x y : Int} (hx : x ∈ l) (hy : y ∈ l) (ne : x ≠ y) : (R1 x y ∧ R2 x y) ∨ (R1 y x ∧ R2 y x) := by
  obtain ⟨i, hi⟩ := List.mem_iff_getElem?.mp hx
  obtain ⟨j, hj⟩ := List.mem_iff_getElem?.mp hy
  rcases Nat.lt_trichotomy i j with h | h | h
  · exact .inl ⟨pw_at p1 hi hj h, pw_at p2 hi hj h⟩
  · subst h
    rw [hi] at hj
    exact absurd (Option.some.inj hj) ne
  · exact .inr ⟨pw_at p1 hj hi h, pw_at p2 hj hi h⟩
section
variable {ones tens : List Str} {hun : Str} {scales : List Str} {ws : List (Str × Wo)} {ones2 tens2 : List Str} {hun2 : Str} {scales2 : List Str} {ws2 : List (Str × Wo)}
theorem own_pair (V : Voc ones tens hun scales ws) {b : Bg} (hb : b ∈ bgs scales.length) {x y : Wo} (hx : x ∈ Bg.all scales.length) (hy : y ∈ Bg.all scales.length) {u v : Int} (hu : ownO b x = some u) (hv : ownO b y = some v) :
    u ∈ numsOf b ws ∧ v ∈ numsOf b ws ∧ ltL (nmL ones tens hun scales u) (nmL ones tens hun scales v) = WkI.ltS (wd ones tens hun scales x) (wd ones tens hun scales y) := by
  obtain ⟨_, _, e1⟩ := nm_own V hb (V.mem hx) hu
  obtain ⟨_, _, e2⟩ := nm_own V hb (V.mem hy) hv
  have m : ∀ {z : Wo} {r : Int}, z ∈ Bg.all scales.length → ownO b z = some r → r ∈ numsOf b ws := fun {z r} hz hr => by
    rw [nums_own]
    exact List.mem_filterMap.mpr ⟨z, List.mem_map.mpr ⟨_, V.mem hz, rfl⟩, hr⟩
  refine ⟨m hx hu, m hy hv, ?_⟩
  rw [e1, e2, ltL_pre]
/-- two words that may follow the same words stand alike in both tables -/
theorem word_alike (V : Voc ones tens hun scales ws) (V2 : Voc ones2 tens2 hun2 scales2 ws2) (len : scales.length = scales2.length) (h : ∀ b ∈ bgs scales.length, numsOf b ws = numsOf b ws2) {b c d : Bg} {x y : Wo} (ok : Bg.Ok b) (hx : x ∈ Bg.all scales.length) (hy : y ∈ Bg.all scales.length)
    (ne : x ≠ y) (h1 : Bg.fol b x = some c) (h2 : Bg.fol b y = some d) : WkI.ltS (wd ones tens hun scales x) (wd ones tens hun scales y) = WkI.ltS (wd ones2 tens2 hun2 scales2 x) (wd ones2 tens2 hun2 scales2 y) := by
  obtain ⟨b', hb, u, v, hu, hv⟩ := meet ok hx hy ne h1 h2
  obtain ⟨mu, mv, e1⟩ := own_pair V hb hx hy hu hv
  have hb2 := hb
  have hx2 := hx
  have hy2 := hy
  rw [len] at hb2 hx2 hy2
  obtain ⟨mu2, mv2, e2⟩ := own_pair V2 hb2 hx2 hy2 hu hv
  have uv : u ≠ v := fun e => by
    obtain ⟨o, to, ho⟩ := bgs_tell hb
    rw [ho x hx] at hu
    rw [ho y hy, ← e] at hv
    exact ne (to x hx y hy u hu hv)
  have p1 := nums_pw V hb
  have p2 := nums_pw V2 hb2
  rw [← h b' hb] at p2
  rcases pw_two p1 p2 mu mv uv with ⟨a1, a2⟩ | ⟨a1, a2⟩
  · rw [← e1, ← e2, a1, a2]
  · rw [← e1, ← e2, ltL_asym a1, ltL_asym a2]
theorem rows_alike (V : Voc ones tens hun scales ws) (V2 : Voc ones2 tens2 hun2 scales2 ws2) (len : scales.length = scales2.length) (h : ∀ b ∈ bgs scales.length, numsOf b ws = numsOf b ws2) : ∀ (A B : List Wo) {b c d : Bg}, Bg.Ok b → (∀ x ∈ A, x ∈ Bg.all scales.length) → (∀ x ∈ B, x ∈ Bg.all scales.length) →
    Bg.folL b A = some c → Bg.folL b B = some d → ltL (A.map (wd ones tens hun scales)) (B.map (wd ones tens hun scales)) = ltL (A.map (wd ones2 tens2 hun2 scales2)) (B.map (wd ones2 tens2 hun2 scales2))
  | [], [], _, _, _, _, _, _, _, _ => rfl
  | [], _ :: _, _, _, _, _, _, _, _, _ => rfl
  | _ :: _, [], _, _, _, _, _, _, _, _ => rfl
  | x :: A, y :: B, b, c, d, ok, hA, hB, hf, hg => by
    have hx := hA x List.mem_cons_self
    have hy := hB y List.mem_cons_self
    cases e1 : Bg.fol b x with
    | none =>
      unfold Bg.folL at hf
      rw [e1] at hf
      cases hf
    | some f =>
      cases e2 : Bg.fol b y with
      | none =>
        unfold Bg.folL at hg
        rw [e2] at hg
        cases hg
      | some g =>
        rw [Bg.folL_one e1] at hf
        rw [Bg.folL_one e2] at hg
        simp only [List.map_cons, ltL]
        by_cases xy : x = y
        · subst xy
          rw [e1] at e2
          cases e2
          rw [ltS_irrefl, ltS_irrefl, if_neg Bool.false_ne_true, if_neg Bool.false_ne_true, if_pos rfl, if_pos rfl]
          exact rows_alike V V2 len h A B (Bg.fol_ok ok (Bg.all_ok hx) e1) (fun z hz => hA z (List.mem_cons_of_mem _ hz)) (fun z hz => hB z (List.mem_cons_of_mem _ hz)) hf hg
        · have n1 : ¬ wd ones tens hun scales x = wd ones tens hun scales y := fun q => xy (V.inj hx hy q)
          have n2 : ¬ wd ones2 tens2 hun2 scales2 x = wd ones2 tens2 hun2 scales2 y := fun q => xy (V2.inj (by rw [← len]; exact hx) (by rw [← len]; exact hy) q)
          rw [if_neg n1, if_neg n2, word_alike V V2 len h ok hx hy xy e1 e2]
theorem names_alike (V : Voc ones tens hun scales ws) (V2 : Voc ones2 tens2 hun2 scales2 ws2) (len : scales.length = scales2.length) (h : ∀ b ∈ bgs scales.length, numsOf b ws = numsOf b ws2) {m n : Int} (m0 : 0 ≤ m) (m1 : m < Bg.W (scales.length + 1)) (n0 : 0 ≤ n) (n1 : n < Bg.W (scales.length + 1)) :
    ltL (nmL ones tens hun scales m) (nmL ones tens hun scales n) = ltL (nmL ones2 tens2 hun2 scales2 m) (nmL ones2 tens2 hun2 scales2 n) := by
  unfold nmL
  rw [← len]
  obtain ⟨c, hc, _⟩ := Bg.name_path m0 m1
  obtain ⟨d, hd, _⟩ := Bg.name_path n0 n1
  exact rows_alike V V2 len h _ _ (Bg.start_ok _) Bg.name_all Bg.name_all hc hd
end
end LB
set_option Elab.async false
set_option linter.all false
set_option maxRecDepth 100000
set_option maxHeartbeats 4000000
/-! Orders compared: same_order, and the thousand numbers sorted. -/
namespace LB
open PySem L2 Wk
open Bg (Bg Wo)
def spSameT : Sp := fun vs H Q _ => ∃ (t o te sc : Addr) (ones tens : List Str) (hun : Str) (scales : List Str) (t2 o2 te2 sc2 : Addr) (ones2 tens2 : List Str) (hun2 : Str) (scales2 : List Str) (ws1 ws2 : List (Str × Wo)), vs = [.ref t, .ref t2] ∧
  Tab H t ones tens hun scales o te sc ∧ Tab H t2 ones2 tens2 hun2 scales2 o2 te2 sc2 ∧ scales.length ≤ 21 ∧ scales.length = scales2.length ∧ Voc ones tens hun scales ws1 ∧ Voc ones2 tens2 hun2 scales2 ws2 ∧
  ∀ H', Same H H' → Q (.bl (decide (∀ b ∈ bgs scales.length, numsOf b ws1 = numsOf b ws2))) H'
def spSortedN : Sp := fun vs H Q _ => ∃ (t o te sc : Addr) (ones tens : List Str) (hun : Str) (scales : List Str), vs = [.ref t] ∧ Tab H t ones tens hun scales o te sc ∧ scales.length ≤ 20 ∧
  ∀ (p : Addr) (ks : List Int) (H' : Hp), H p = none → Same H H' → H' p = some (.lst (ks.map V.int)) → ks.Perm ((List.range 1000).map fun n : Nat => (n : Int)) → ks.Pairwise (fun x y => ltL (nmL ones tens hun scales x) (nmL ones tens hun scales y) = true) → Q (.ref p) H'
theorem nm_ltS {ones tens : List Str} {hun : Str} {scales : List Str} (good : GoodRow (ones ++ (tens ++ hun :: scales))) {m n : Int} (m0 : 0 ≤ m) (m1 : m < Bg.W (scales.length + 1)) (n0 : 0 ≤ n) (n1 : n < Bg.W (scales.length + 1)) :
    WkI.ltS (nameT ones tens hun scales m) (nameT ones tens hun scales n) = ltL (nmL ones tens hun scales m) (nmL ones tens hun scales n) :=
  name_lt (nm_good good m) (nm_good good n) (nm_ne n0 n1) (nm_ne m0 m1)
section
variable {P : Program} {w : World} {K : PySem.W.Frag} {mg : Str → Option Value} {base : Heap}
theorem scSameT : FnScope ["first", "second"] ["first", "second"] (defScope sSame) := ⟨rfl, rfl, rfl, by decide +kernel, rfl, by decide +kernel, by decide +kernel⟩
theorem ok_sameT {f fP : Addr} {fd dP : FuncData} (F : Fun K "same_order" "same_order" sSame f fd) (A : Def1 P w K mg base "parting_numbers" 5 fP dP ["first", "second"] spPartT) : FnOk P w K mg base CX0 6 f fd ["first", "second"] spSameT := by
  refine F.ok scSameT (fun vs H Q E h => ?_) (fun cdv AA outer s H vs Q E hr h => ?_)
  · obtain ⟨t, o, te, sc, ones, tens, hun, scales, t2, o2, te2, sc2, ones2, tens2, hun2, scales2, ws1, ws2, rfl, _⟩ := h
    rfl
  · obtain ⟨t, o, te, sc, ones, tens, hun, scales, t2, o2, te2, sc2, ones2, tens2, hun2, scales2, ws1, ws2, rfl, T1, T2, l21, len, V1, V2, k⟩ := h
    refine ⟨_, pss_one (ps_ret (pe_cmpR op_isN (pe_call A.ok hr (by rfl) A.g A.k A.b .nil pass0 (pa_cons (pv 0) (pa_cons (pv 1) pa_nil))) pe_non (nomark _))), ?_⟩
    refine ⟨_, rfl, _, rfl, t, o, te, sc, ones, tens, hun, scales, t2, o2, te2, sc2, ones2, tens2, hun2, scales2, ws1, ws2, rfl, T1, T2, l21, len, V1, V2, fun v H' s tp => ?_⟩
    have k := k H' s
    rcases tp with ⟨rfl, h⟩ | ⟨T, x, y, rfl, _, h, _⟩
    · rw [decide_eq_true h] at k
      exact ⟨rfl, k⟩
    · rw [decide_eq_false h] at k
      exact ⟨rfl, k⟩
end
end LB
set_option Elab.async false
set_option linter.all false
set_option maxRecDepth 100000
set_option maxHeartbeats 8000000
/-! What find tells of two tables is the same exactly if their orders are. -/
namespace LB
open PySem L2 Wk
open Bg (Bg Wo)
theorem out_posT {ones tens : List Str} {hun : Str} {scales : List Str} {ws : List (Str × Wo)} (V : Voc ones tens hun scales ws) : (outF ones tens hun scales).filter (fun n => decide (0 < n)) = wordsF ws := by
  rw [out_is V, List.filter_append, List.filter_cons, if_neg (by decide), ← List.filter_append, List.take_append_drop]
  exact List.filter_eq_self.mpr fun n hn => decide_eq_true (words_pos V n hn).1
def plO (ones tens : List Str) (hun : Str) (scales : List Str) : List Int := (outF ones tens hun scales).filter fun n => decide (n < 100)
theorem plO_is {ones tens : List Str} {hun : Str} {scales : List Str} {ws : List (Str × Wo)} (V : Voc ones tens hun scales ws) : ∃ R, plO ones tens hun scales = earlyX (ws.map (·.2)) ++ 0 :: R ∧ (0 : Int) ∉ earlyX (ws.map (·.2)) := by
  have e := out_early V
  refine ⟨((wordsF ws).drop (placeF ones tens hun scales (wordsF ws))).filter (fun n => decide (n < 100)), ?_, ?_⟩
  · unfold plO
    rw [out_is V, List.filter_append, List.filter_cons, if_pos (by decide), e]
  · intro h
    rw [← e] at h
    exact absurd (words_pos V 0 (List.mem_of_mem_take (List.mem_filter.mp h).1)).1 (by decide)
theorem out_same {ones tens : List Str} {hun : Str} {scales : List Str} {ws : List (Str × Wo)} {ones2 tens2 : List Str} {hun2 : Str} {scales2 : List Str} {ws2 : List (Str × Wo)} (V : Voc ones tens hun scales ws) (V2 : Voc ones2 tens2 hun2 scales2 ws2)
    (h : wordsF ws = wordsF ws2) (he : (earlyX (ws.map (·.2))).length = (earlyX (ws2.map (·.2))).length) : outF ones tens hun scales = outF ones2 tens2 hun2 scales2 := by
  have z1 := (zer_early V).1
  have z2 := (zer_early V2).1
  have o1 := out_is V
  have o2 := out_is V2
  rw [h] at z1 o1
  have p : placeF ones tens hun scales (wordsF ws2) = placeF ones2 tens2 hun2 scales2 (wordsF ws2) := by
    unfold placeF
    rw [z1, z2, he]
  rw [o1, o2, p]
theorem told_iff {ones tens : List Str} {hun : Str} {scales : List Str} {ws : List (Str × Wo)} {ones2 tens2 : List Str} {hun2 : Str} {scales2 : List Str} {ws2 : List (Str × Wo)} (V : Voc ones tens hun scales ws) (V2 : Voc ones2 tens2 hun2 scales2 ws2) (len : scales.length = scales2.length) :
    (wordsF ws = wordsF ws2 ∧ plO ones tens hun scales = plO ones2 tens2 hun2 scales2 ∧ hunsF ones tens hun scales = hunsF ones2 tens2 hun2 scales2) ↔ ∀ b ∈ bgs scales.length, numsOf b ws = numsOf b ws2 := by
  have R := V.row
  have T := V2.row
  rw [← len] at T
  generalize scales.length = n at R T
  have b0 : ∀ {us : List (Str × Wo)}, Row n (us.map (·.2)) → numsOf (Bg.start n) us = (us.map (·.2)).filterMap o0 := fun r => by
    rw [nums_own]
    exact fm_congr fun x hx => own_b0 (r.mem x hx)
  have b1 : ∀ {us : List (Str × Wo)}, Row n (us.map (·.2)) → numsOf ⟨0, 1, 1, n + 1⟩ us = (us.map (·.2)).filterMap o1 := fun r => by
    rw [nums_own]
    exact fm_congr fun x hx => own_b1 (r.mem x hx)
  have b2 : ∀ {us : List (Str × Wo)}, Row n (us.map (·.2)) → numsOf ⟨0, 100, 100, n + 1⟩ us = (us.map (·.2)).filterMap o2 := fun r => by
    rw [nums_own]
    exact fm_congr fun x hx => own_b2 (r.mem x hx)
  constructor
  · rintro ⟨h1, h2, h3⟩
    obtain ⟨R1, p1, n1⟩ := plO_is V
    obtain ⟨R2, p2, n2⟩ := plO_is V2
    have e := same_cut ((p1.symm.trans h2).trans p2) n1 n2
    have l := (huns_late V).symm.trans (h3.trans (huns_late V2))
    obtain ⟨q0, q1, q2⟩ := same_orders R T h1 (by rw [e]) l
    intro b hb
    rcases List.mem_cons.mp hb with rfl | hb
    · rw [b0 R, b0 T, q0]
    rcases List.mem_cons.mp hb with rfl | hb
    · rw [b1 R, b1 T, q1]
    rw [List.mem_singleton.mp hb, b2 R, b2 T, q2]
  · intro h
    have q0 := h _ List.mem_cons_self
    have q1 := h _ (List.mem_cons_of_mem _ List.mem_cons_self)
    have q2 := h _ (List.mem_cons_of_mem _ (List.mem_cons_of_mem _ List.mem_cons_self))
    rw [b0 R, b0 T] at q0
    rw [b1 R, b1 T] at q1
    rw [b2 R, b2 T] at q2
    obtain ⟨a, c, d⟩ := same_shape R T q0 q1 q2
    refine ⟨a, ?_, ?_⟩
    · unfold plO
      rw [out_same V V2 a (by rw [c])]
    · rw [huns_late V, huns_late V2, d]
end LB
set_option Elab.async false
set_option linter.all false
set_option maxRecDepth 100000
set_option maxHeartbeats 8000000
/-! What the law hears of a hidden table. -/
namespace LB
open PySem L2 Wk
open Bg (Bg Wo)
def spToldB : Sp := fun vs H Q _ => ∃ (t o te sc : Addr) (ones tens : List Str) (hun : Str) (scales : List Str), vs = [.ref t] ∧ Tab H t ones tens hun scales o te sc ∧ scales.length ≤ 20 ∧
  ∀ (M A B : Addr) (H' : Hp), Same H H' → H' M = some (.lst [.ref A, .ref B, .int ((hunsF ones tens hun scales : Nat) : Int)]) → H' A = some (.lst (((outF ones tens hun scales).filter (fun n => decide (0 < n))).map V.int)) → H' B = some (.lst ((plO ones tens hun scales).map V.int)) → Q (.ref M) H'
section
variable {P : Program} {w : World} {K : PySem.W.Frag} {mg : Str → Option Value} {base : Heap} {CH C0 C1 fI fC fQ pQ fS pS : Addr} {dI dC dQ dS : FuncData} {g : List Value → List Value → List Value}
theorem scToldB : FnScope ["book", "values", "hundreds", "value"] ["book"] (defScope sTold) := ⟨rfl, rfl, rfl, by decide +kernel, rfl, by decide +kernel, by decide +kernel⟩
theorem ok_toldB {f fF : Addr} {fd dF : FuncData} (F : Fun K "_law_told" "_law_told" sTold f fd) (M : HidM P w K mg base CH C0 C1 fI fC fQ pQ fS pS dI dC dQ dS g) (IX : FnOk P w K mg base (L2.CX P w) 4 fI dI ["self", "table"] (spHInitX CH C0))
    (Fi : Def1 P w K mg base "find" 8 fF dF ["hidden"] (spFind CH)) : FnOk P w K mg base CX0 9 f fd ["book"] spToldB := by
  refine F.ok scToldB (fun vs H Q E h => ?_) (fun cdv A outer s H vs Q E hr h => ?_)
  · obtain ⟨t, o, te, sc, ones, tens, hun, scales, rfl, _⟩ := h
    rfl
  · obtain ⟨t, o, te, sc, ones, tens, hun, scales, rfl, T, n20, kk⟩ := h
    have hr5 : Room 5 _ := hr.mono (by decide)
    refine ⟨_, pss_cons (ps_asg (pe_call Fi.ok hr (by rfl) Fi.g Fi.k Fi.b .nil pass0 (pa_cons (pe_makeAt M.made IX hr5 (by rfl) M.gH M.bI (fun σ => passAt takes0 σ) (pa_cons (pv 0) pa_nil)) pa_nil)) (pg_tup (by rfl) (pgs_cons (pg_name (i := 1) scToldB.nd rfl (.inl rfl)) (pgs_cons (pg_name (i := 2) scToldB.nd rfl (.inl rfl)) pgs_nil)))) (pss_one (ps_ret (pe_lst (pa_cons (pe_lc (own := [("value", 3)]) (g := gName 3) (by rfl) scToldB.nd (pi_list (pv 1)) (blkOk_by (own := [("value", 3)]) (N := ["book", "values", "hundreds", "value"]) (sc := defScope sTold) (by decide +kernel)) (fun _ _ _ _ _ => pg_name (i := 3) scToldB.nd rfl (Or.inl rfl)) (fun _ _ _ _ _ => pts_one (pt_cmpR op_gt (pv 3) pe_int (nomark _))) (fun _ _ _ _ _ => pv 3)) (pa_cons (pe_lc (own := [("value", 3)]) (g := gName 3) (by rfl) scToldB.nd (pi_list (pv 1)) (blkOk_by (own := [("value", 3)]) (N := ["book", "values", "hundreds", "value"]) (sc := defScope sTold) (by decide +kernel)) (fun _ _ _ _ _ => pg_name (i := 3) scToldB.nd rfl (Or.inl rfl)) (fun _ _ _ _ _ => pts_one (pt_cmpR op_lt (pv 3) pe_int (nomark _))) (fun _ _ _ _ _ => pv 3)) (pa_cons (pv 2) pa_nil)))))), ?_⟩
    have big : 10000 ≤ sizeLine := by decide
    have ff : fault ones tens hun scales = none := fault_good T.tb.l1 T.tb.l2 T.good
    obtain ⟨ws, Vc⟩ : ∃ ws, Voc ones tens hun scales ws := T.has_voc
    have l1 := T.tb.l1
    have l2 := T.tb.l2
    have TD : TabD H t ones tens hun scales o te sc := ⟨T.tb.at_, by omega, by omega, by omega, fun x hx => (T.good.ok x hx).tame⟩
    have wlen := words_len Vc
    have ple := place_le (ones := ones) (tens := tens) (hun := hun) (scales := scales) (wordsF ws)
    have olen : (outF ones tens hun scales).length ≤ 60 := by
      rw [out_is Vc, List.length_append, List.length_cons, List.length_take, List.length_drop]
      omega
    unfold plO at kk
    obtain ⟨O, hO⟩ : ∃ O, O = outF ones tens hun scales := ⟨_, rfl⟩
    obtain ⟨hnd, hhnd⟩ : ∃ z, z = hunsF ones tens hun scales := ⟨_, rfl⟩
    rw [← hO] at olen kk
    rw [← hhnd] at kk
    refine ⟨_, rfl, ?_⟩
    intro b dx nb nd ne
    have sM : Same H (upd (upd H dx (.own b)) b (.ins CH dx [])) := fun r u e => (upd_ne (ne_of_none e nb)).trans ((upd_ne (ne_of_none e nd)).trans e)
    refine ⟨b, dx, t, o, te, sc, ones, tens, hun, scales, rfl, upd_same, TD.same sM, fun _ tc oc ec cc G3 m0 m1 m2 m3 TC hh keep => ⟨rfl, ?_⟩, fun v hv => absurd (ff.symm.trans hv) (by intro z; cases z)⟩
    have sG : Same H G3 := fun r u e => keep _ _ (sM _ _ e) (ne_of_none e nb)
    refine ⟨b, dx, tc, oc, ec, cc, 0, ones, tens, hun, scales, rfl, hh, ⟨TC, by omega, by omega, by omega, fun x hx => (T.good.ok x hx).tame⟩, ff, n20, fun TT LL G7 nTT nLL _ h7 k7 hT hLL => ?_⟩
    rw [← hO] at hLL
    rw [← hhnd] at hT
    have s7 : Same H G7 := fun r u e => k7 _ _ (sG _ _ e) (ne_of_none e nb)
    refine ⟨TT, _, rfl, SqT.of hT, rfl, _, _, rfl, _, _, rfl, rfl, ?_⟩
    refine ⟨_, rfl, LL, rfl, ⟨_, SqL.of hLL⟩, fun D nD => lc_it (walk_list (K := K) (a := LL) (xs := O.map V.int)) (fun j G' => G' D = some (.lst (((O.take j).filter (fun n : Int => decide (0 < n))).map V.int)) ∧ Same G7 G') ⟨upd_same, same_new nD⟩ (fun j G' _ ⟨_, s⟩ => SqL.of (s _ _ hLL)) ?_ ?_⟩
    · rintro j x Ga Gb hj ⟨hD, sG⟩ ⟨rfl, hx⟩
      obtain ⟨m, hm, rfl⟩ := int_at hx
      have tk : (O.take (j + 1)).filter (fun n : Int => decide (0 < n)) = (O.take j).filter (fun n : Int => decide (0 < n)) ++ (if (fun n : Int => decide (0 < n)) m = true then [m] else []) := by
        rw [List.take_add_one, hm, List.filter_append]
        show _ ++ [m].filter _ = _
        rw [List.filter_cons, List.filter_nil]
      have lnf := List.length_filter_le (fun n : Int => decide (0 < n)) (O.take j)
      have jl : j < O.length := (List.getElem?_eq_some_iff.mp hm).1
      rw [List.length_take] at lnf
      refine ⟨rfl, _, rfl, _, _, rfl, rfl, _, rfl, ite2 (fun c => ?_) (fun c => ?_)⟩
      · have c' : (fun n : Int => decide (0 < n)) m = true := c
        refine ⟨_, rfl, _, hD, by rw [List.length_map]; omega, ?_, fun q' o' e' => ?_⟩
        · rw [upd_same, tk, if_pos c', List.map_append]
          rfl
        · rw [upd_ne (ne_of_none e' nD)]
          exact sG _ _ e'
      · have c' : ¬ (fun n : Int => decide (0 < n)) m = true := c
        refine ⟨?_, sG⟩
        rw [tk, if_neg c', List.append_nil]
        exact hD
    rintro G8 ⟨hD, s8⟩
    rw [List.length_map, List.take_length] at hD
    refine ⟨_, rfl, LL, rfl, ⟨_, SqL.of (s8 _ _ hLL)⟩, fun D2 nD2 => lc_it (walk_list (K := K) (a := LL) (xs := O.map V.int)) (fun j G' => G' D2 = some (.lst (((O.take j).filter (fun n : Int => decide (n < 100))).map V.int)) ∧ Same G8 G') ⟨upd_same, same_new nD2⟩ (fun j G' _ ⟨_, s⟩ => SqL.of (s _ _ (s8 _ _ hLL))) ?_ ?_⟩
    · rintro j x Ga Gb hj ⟨hD, sG⟩ ⟨rfl, hx⟩
      obtain ⟨m, hm, rfl⟩ := int_at hx
      have tk : (O.take (j + 1)).filter (fun n : Int => decide (n < 100)) = (O.take j).filter (fun n : Int => decide (n < 100)) ++ (if (fun n : Int => decide (n < 100)) m = true then [m] else []) := by
        rw [List.take_add_one, hm, List.filter_append]
        show _ ++ [m].filter _ = _
        rw [List.filter_cons, List.filter_nil]
      have lnf := List.length_filter_le (fun n : Int => decide (n < 100)) (O.take j)
      have jl : j < O.length := (List.getElem?_eq_some_iff.mp hm).1
      rw [List.length_take] at lnf
      refine ⟨rfl, _, rfl, _, _, rfl, rfl, _, rfl, ite2 (fun c => ?_) (fun c => ?_)⟩
      · have c' : (fun n : Int => decide (n < 100)) m = true := c
        refine ⟨_, rfl, _, hD, by rw [List.length_map]; omega, ?_, fun q' o' e' => ?_⟩
        · rw [upd_same, tk, if_pos c', List.map_append]
          rfl
        · rw [upd_ne (ne_of_none e' nD2)]
          exact sG _ _ e'
      · have c' : ¬ (fun n : Int => decide (n < 100)) m = true := c
        refine ⟨?_, sG⟩
        rw [tk, if_neg c', List.append_nil]
        exact hD
    rintro G9 ⟨hD2, s9⟩
    rw [List.length_map, List.take_length] at hD2
    refine ⟨_, rfl, ?_⟩
    refine ⟨by show 3 ≤ sizeLine; omega, fun M' nM => ?_⟩
    exact kk M' D D2 _ (fun r u e => (upd_ne (ne_of_none (s9 _ _ (s8 _ _ (s7 _ _ e))) nM)).trans (s9 _ _ (s8 _ _ (s7 _ _ e)))) upd_same (upd_keep (s9 _ _ hD) nM) (upd_keep hD2 nM)
end
end LB
set_option Elab.async false
set_option linter.all false
set_option maxRecDepth 100000
set_option maxHeartbeats 4000000
/-! The program's own: the number at a place. -/
namespace LB
open PySem L2 Wk
open Bg (Bg Wo)
section
variable {P : Program} {w : World} {K : PySem.W.Frag} {mg : Str → Option Value} {base : Heap}
theorem scNumW : FnScope ["table", "place", "low", "high", "words", "beginning", "left", "_", "longer", "many"] ["table", "place", "low", "high"] (defScope sNumW) := ⟨rfl, rfl, rfl, by decide +kernel, rfl, by decide +kernel, by decide +kernel⟩
theorem ok_numW {f fV fS fO fE fT fC : Addr} {fd dV dS dO dE dT dC : FuncData} (F : Fun K "number_within" "number_within" sNumW f fd)
    (DV : Def1 P w K mg base "vocabulary" 2 fV dV ["table"] spVocab) (DS : Def1 P w K mg base "start" 2 fS dS ["table"] (spStart K)) (DO : Def1 P w K mg base "own_number" 1 fO dO ["beginning"] (spOwn K))
    (DE : Def1 P w K mg base "ends_within" 2 fE dE ["beginning", "low", "high"] (spEnds K)) (DT : Def1 P w K mg base "steps" 3 fT dT ["beginning", "words"] (spSteps K)) (DC : Def1 P w K mg base "count_within" 2 fC dC ["beginning", "low", "high"] (spCount K)) :
    FnOk P w K mg base CX0 4 f fd ["table", "place", "low", "high"] spNumW := by
  refine F.ok scNumW (fun vs H Q E h => ?_) (fun cdv A outer s H vs Q E hr h => ?_)
  · obtain ⟨t, o, te, sc, ones, tens, hun, scales, n, lo, hi, rfl, _⟩ := h
    rfl
  · obtain ⟨t, o, te, sc, ones, tens, hun, scales, n, lo, hi, rfl, TB, lo0, lh, hi1, n0, n1, k⟩ := h
    have hr2 : Room 2 _ := hr.mono (by decide)
    have hr1 : Room 1 _ := hr.mono (by decide)
    refine ⟨_, pss_cons (ps_set (i := 4) scNumW.nd rfl (.inl rfl) (pe_call DV.ok hr2 (by rfl) DV.g DV.k DV.b .nil pass0 (pa_cons (pv 0) pa_nil)))
      (pss_cons (ps_set (i := 5) scNumW.nd rfl (.inl rfl) (pe_call DS.ok hr2 (by rfl) DS.g DS.k DS.b .nil pass0 (pa_cons (pv 0) pa_nil)))
      (pss_cons (ps_set (i := 6) scNumW.nd rfl (.inl rfl) (pv 1))
      (pss_one (ps_while PassesOwn.never (pt_val pe_bl)
        (pss_mid (ps_if (pt_val (pe_call DE.ok hr2 (by rfl) DE.g DE.k DE.b .nil pass0 (pa_cons (pv 5) (pa_cons (pv 2) (pa_cons (pv 3) pa_nil)))))
          (pss_cons (ps_if (pt_cmpR op_eq (pv 6) pe_int (nomark _)) (pss_one (ps_ret (pe_call DO.ok hr1 (by rfl) DO.g DO.k DO.b .nil pass0 (pa_cons (pv 5) pa_nil)))) pss_nil)
          (pss_one (ps_set (i := 6) scNumW.nd rfl (.inl rfl) (pe_op op_sub (pv 6) pe_int)))) pss_nil)
        (pss_one (ps_for PassesOwn.never rfl (pi_list (pe_call DT.ok hr (by rfl) DT.g DT.k DT.b .nil pass0 (pa_cons (pv 5) (pa_cons (pv 4) pa_nil)))) (pg_tup (by rfl) (pgs_cons (pg_name (i := 7) scNumW.nd rfl (.inl rfl)) (pgs_cons (pg_name (i := 8) scNumW.nd rfl (.inl rfl)) pgs_nil)))
          (pss_cons (ps_set (i := 9) scNumW.nd rfl (.inl rfl) (pe_call DC.ok hr2 (by rfl) DC.g DC.k DC.b .nil pass0 (pa_cons (pv 8) (pa_cons (pv 2) (pa_cons (pv 3) pa_nil)))))
          (pss_cons (ps_if (pt_cmpR op_lt (pv 6) (pv 9) (nomark _)) (pss_cons (ps_set (i := 5) scNumW.nd rfl (.inl rfl) (pv 8)) (pss_one ps_break)) pss_nil)
          (pss_one (ps_set (i := 6) scNumW.nd rfl (.inl rfl) (pe_op op_sub (pv 6) (pv 9))))))))))))), ?_⟩
    have l1 := TB.l1
    have l2 := TB.l2
    have l3 := TB.l3
    refine ⟨_, rfl, t, o, te, sc, ones, tens, hun, scales, rfl, TB.at_, by omega, by omega, by omega, TB.nd, fun l vz H1 nl s1 hv _ hperm hasc => ?_⟩
    have T1 := TB.same s1
    refine ⟨_, rfl, t, o, te, sc, ones, tens, hun, scales, rfl, T1.at_, by omega, fun p H2 np s2 hp => ?_⟩
    refine ⟨_, rfl, ?_⟩
    have lv : vz.length ≤ 1000 := by
      have := hperm.length_eq
      rw [List.length_map, voc_len] at this
      omega
    have wok : ∀ z ∈ vz, Bg.WOk z.2.2 := fun z hz => by
      have h1 : z.2 ∈ voc ones tens hun scales := hperm.mem_iff.mp (List.mem_map.mpr ⟨z, hz, rfl⟩)
      have h2 : z.2.2 ∈ (voc ones tens hun scales).map (·.2) := List.mem_map.mpr ⟨_, h1, rfl⟩
      rw [voc_snd l1 l2] at h2
      exact Bg.all_ok h2
    have wall : ((vz.map (·.2)).map (·.2)).Perm (Bg.all scales.length) := by
      have := hperm.map (·.2)
      rw [voc_snd l1 l2] at this
      exact this
    generalize hws : vz.map (·.2) = ws at hperm hasc wall
    have whole : Bg.cf (Bg.fb lo hi) (Bg.start scales.length) = hi - lo + 1 := Bg.start_all lo0 lh hi1
    have ownC := fun b => Bg.own_code (lo := lo) (hi := hi) (b := b) lh
    have cnt : ∀ b, Bg.Ok b → b.m ≤ scales.length + 1 → Bg.cf (Bg.fb lo hi) b = Bg.own (Bg.fb lo hi) b + Bg.sumL (cfS (Bg.fb lo hi)) (stepsOf b ws) := fun b ok hm => steps_count ok hm wall
    have nneg : ∀ b, Bg.Ok b → 0 ≤ Bg.cf (Bg.fb lo hi) b := fun b ok => Bg.cf_nonneg ok
    generalize hF : Bg.fb lo hi = FF at k whole ownC cnt nneg
    refine ⟨fun m σ G => ∃ (pb : Addr) (b : Bg) (left : Int) (x y z : Option V), m = Bg.far b ∧ σ = [some (.ref t), some (.int n), some (.int lo), some (.int hi), some (.ref l), some (.ref pb), some (.int left), x, y, z] ∧
      Same H1 G ∧ SqT K G pb (BgV b) ∧ Bg.Ok b ∧ b.m ≤ scales.length + 1 ∧ 0 ≤ left ∧ left < Bg.cf FF b ∧ ∀ r, NumAt FF ws b left r → NumAt FF ws (Bg.start scales.length) n r, ⟨_, p, _, n, none, none, none, rfl, rfl, s2, hp, Bg.start_ok _, Nat.le_refl _, n0, by omega, fun r h => h⟩, ?_⟩
    rintro m σ G ⟨pb, b, left, x0, y0, z0, rfl, rfl, s4, hb, ok, bm, lf0, lf1, e⟩
    refine ⟨true, rfl, iteT ?_⟩
    refine ⟨fun σ' G' => ∃ (pb' : Addr) (b' : Bg) (left' : Int) (x y z : Option V), Bg.far b' < Bg.far b ∧ σ' = [some (.ref t), some (.int n), some (.int lo), some (.int hi), some (.ref l), some (.ref pb'), some (.int left'), x, y, z] ∧
      Same H1 G' ∧ SqT K G' pb' (BgV b') ∧ Bg.Ok b' ∧ b'.m ≤ scales.length + 1 ∧ 0 ≤ left' ∧ left' < Bg.cf FF b' ∧ ∀ r, NumAt FF ws b' left' r → NumAt FF ws (Bg.start scales.length) n r, ?_, ?_⟩
    · rintro σ' G' ⟨pb', b', left', x, y, z, f1, f2, f3, f4, f5, f6, f7, f8, f9⟩
      exact ⟨_, f1, pb', b', left', x, y, z, rfl, f2, f3, f4, f5, f6, f7, f8, f9⟩
    refine ⟨fun τ G2 => G2 = G ∧ τ = [some (.ref t), some (.int n), some (.int lo), some (.int hi), some (.ref l), some (.ref pb), some (.int (left - Bg.own FF b)), x0, y0, z0] ∧ 0 ≤ left - Bg.own FF b, ?_, ?_⟩
    · refine ⟨_, rfl, _, rfl, _, rfl, pb, b, lo, hi, rfl, hb, _, rfl, ?_⟩
      have oc := ownC b
      change Bg.own FF b = if endsB lo hi b = true then 1 else 0 at oc
      cases he : endsB lo hi b with
      | true =>
        rw [he, if_pos rfl] at oc
        refine iteT ⟨_, rfl, rfl, _, rfl, ite2 (fun d => ?_) (fun d => ?_)⟩
        · have z : left = 0 := V.int.inj (of_decide_eq_true d)
          refine ⟨_, rfl, pb, b, rfl, hb, ?_⟩
          refine k ws _ G (s1.trans s4) hperm hasc (e _ ?_)
          rw [z]
          exact .own oc
        · have z : left ≠ 0 := fun q => d (decide_eq_true (by rw [q]))
          refine ⟨_, rfl, _, _, rfl, rfl, rfl, ?_, by omega⟩
          rw [oc]
          rfl
      | false =>
        rw [he, if_neg Bool.false_ne_true] at oc
        refine iteF ⟨rfl, ?_, by omega⟩
        rw [oc, Int.sub_zero]
    rintro τ G2 ⟨rfl, rfl, left0⟩
    refine ⟨_, rfl, _, rfl, pb, b, l, vz, rfl, hb, ok, hv.same s4, lv, wok, fun u cs G3 nu s5 hst ec => ?_⟩
    rw [hws] at ec
    have cb := cnt b ok bm
    refine ⟨u, rfl, ⟨_, SqL.of hst.1⟩, for_list (K := K) (a := u) (xs := cs.map fun c => V.ref c.1) (fun i σ G4 => G4 = G3 ∧ 0 ≤ left - Bg.own FF b - Bg.sumL (cfS FF) ((cs.take i).map pairS) ∧ ∃ x y z : Option V, σ = [some (.ref t), some (.int n), some (.int lo), some (.int hi), some (.ref l), some (.ref pb), some (.int (left - Bg.own FF b - Bg.sumL (cfS FF) ((cs.take i).map pairS))), x, y, z]) ?_ ?_ ?_ ?_⟩
    · refine ⟨rfl, ?_, x0, y0, z0, ?_⟩
      · show 0 ≤ left - Bg.own FF b - 0
        omega
      · show _ = [_, _, _, _, _, _, some (V.int (left - Bg.own FF b - 0)), _, _, _]
        rw [Int.sub_zero]
    · rintro i σ G4 _ ⟨rfl, _⟩
      exact SqL.of hst.1
    · rintro i y σ G4 hic ⟨rfl, pos, x1, y1, z1, rfl⟩
      obtain ⟨c, hc, rfl⟩ := cs_get hic
      obtain ⟨c1, c2⟩ := hst.2 c (List.mem_of_getElem? hc)
      have pc : (stepsOf b ws)[i]? = some (pairS c) := by
        rw [← ec, List.getElem?_map, hc]
        rfl
      obtain ⟨wo, hwo, hfol⟩ := steps_mem (List.mem_of_getElem? pc)
      have wk : Bg.WOk wo := by
        rw [← hws] at hwo
        obtain ⟨z, hz, ez⟩ := List.mem_map.mp hwo
        have := wok z hz
        rw [ez] at this
        exact this
      have okc : Bg.Ok c.2.2.2 := Bg.fol_ok ok wk hfol
      have split : stepsOf b ws = (cs.take i).map pairS ++ (c.2.1, c.2.2.2) :: (cs.drop (i + 1)).map pairS := by
        obtain ⟨hi', e'⟩ := List.getElem?_eq_some_iff.mp hc
        have z := List.take_append_drop i cs
        rw [List.drop_eq_getElem_cons hi', e'] at z
        rw [← ec]
        conv => lhs; rw [← z]
        rw [List.map_append, List.map_cons]
        rfl
      refine ⟨c.1, _, rfl, SqT.of c1, rfl, _, _, rfl, _, _, rfl, rfl, ?_⟩
      refine ⟨_, rfl, _, rfl, _, rfl, c.2.2.1, c.2.2.2, lo, hi, rfl, c2, okc, ?_⟩
      rw [hF]
      refine ⟨_, rfl, _, rfl, _, _, rfl, rfl, _, rfl, ite2 (fun d => ?_) (fun d => ?_)⟩
      · have lt : left - Bg.own FF b - Bg.sumL (cfS FF) ((cs.take i).map pairS) < Bg.cf FF c.2.2.2 := of_decide_eq_true d
        refine ⟨_, rfl, ?_⟩
        exact ⟨c.2.2.1, c.2.2.2, _, _, _, _, Bg.fol_far ok wk hfol, rfl, s4.trans s5, c2, okc, Nat.le_trans (Bg.fol_m hfol) bm, pos, lt, fun r h => e r (.step split pos lt h)⟩
      · have ge : ¬ left - Bg.own FF b - Bg.sumL (cfS FF) ((cs.take i).map pairS) < Bg.cf FF c.2.2.2 := fun z => d (decide_eq_true z)
        have more : Bg.sumL (cfS FF) ((cs.take (i + 1)).map pairS) = Bg.sumL (cfS FF) ((cs.take i).map pairS) + Bg.cf FF c.2.2.2 := by
          rw [List.take_add_one, hc, List.map_append, Bg.sumL_append]
          show _ + (Bg.cf FF c.2.2.2 + 0) = _
          rw [Int.add_zero]
        refine ⟨_, rfl, _, rfl, _, _, rfl, rfl, rfl, ?_, some (.str c.2.1), some (.ref c.2.2.1), some (.int (Bg.cf FF c.2.2.2)), ?_⟩
        · rw [more]
          omega
        · rw [more]
          show _ = [_, _, _, _, _, _, some (V.int (left - Bg.own FF b - (Bg.sumL (cfS FF) ((cs.take i).map pairS) + Bg.cf FF c.2.2.2))), _, _, _]
          rw [← Int.sub_sub]
          rfl
    · rintro σ G4 ⟨rfl, pos, _⟩
      exfalso
      rw [List.length_map, List.take_length, ec] at pos
      omega
end
end LB
set_option Elab.async false
set_option linter.all false
set_option maxRecDepth 100000
set_option maxHeartbeats 4000000
/-! The program's own on valid arguments: ranges. -/
namespace LB
open PySem L2 Wk
open Bg (Bg Wo)
def spCN0 : Sp := fun vs H Q _ => ∃ (t o te sc : Addr) (ones tens : List Str) (hun : Str) (scales : List Str) (n : Int), vs = [.ref t, .int n] ∧ Tab H t ones tens hun scales o te sc ∧ 0 ≤ n ∧ n < Bg.W (scales.length + 1) ∧ ∀ H', Same H H' → Q .non H'
def spCR0 : Sp := fun vs H Q _ => ∃ (t o te sc : Addr) (ones tens : List Str) (hun : Str) (scales : List Str) (lo hi : Int), vs = [.ref t, .int lo, .int hi] ∧ Tab H t ones tens hun scales o te sc ∧ 0 ≤ lo ∧ lo ≤ hi ∧ hi < Bg.W (scales.length + 1) ∧ ∀ H', Same H H' → Q .non H'
def spCB0 : Sp := fun vs H Q _ => ∃ (t o te sc : Addr) (ones tens : List Str) (hun : Str) (scales : List Str) (n lo hi : Int), vs = [.ref t, .int n, .int lo, .int hi] ∧ Tab H t ones tens hun scales o te sc ∧ 0 ≤ n ∧ n < Bg.W (scales.length + 1) ∧
  0 ≤ lo ∧ lo ≤ hi ∧ hi < Bg.W (scales.length + 1) ∧ ∀ H', Same H H' → Q (.int (ahead ones tens hun scales lo hi n)) H'
def spNth0 : Sp := fun vs H Q _ => ∃ (t o te sc : Addr) (ones tens : List Str) (hun : Str) (scales : List Str) (n lo hi : Int), vs = [.ref t, .int n, .int lo, .int hi] ∧ Tab H t ones tens hun scales o te sc ∧ 0 ≤ n ∧ n ≤ hi - lo ∧
  0 ≤ lo ∧ lo ≤ hi ∧ hi < Bg.W (scales.length + 1) ∧ ∀ r H', Same H H' → lo ≤ r → r ≤ hi → ahead ones tens hun scales lo hi r = n → Q (.int r) H'
/-- the neighbour of a number: at this place, if there is one -/
def spNext0 (up : Bool) : Sp := fun vs H Q _ => ∃ (t o te sc : Addr) (ones tens : List Str) (hun : Str) (scales : List Str) (n lo hi : Int), vs = [.ref t, .int n, .int lo, .int hi] ∧ Tab H t ones tens hun scales o te sc ∧ 0 ≤ n ∧ n < Bg.W (scales.length + 1) ∧
  0 ≤ lo ∧ lo ≤ hi ∧ hi < Bg.W (scales.length + 1) ∧ (∀ p : Int, p = (if up then ahead ones tens hun scales lo hi n + (if lo ≤ n ∧ n ≤ hi then 1 else 0) else ahead ones tens hun scales lo hi n - 1) →
    ((p < 0 ∨ p > hi - lo) → ∀ H', Same H H' → Q .non H') ∧ (0 ≤ p → p ≤ hi - lo → ∀ r H', Same H H' → lo ≤ r → r ≤ hi → ahead ones tens hun scales lo hi r = p → Q (.int r) H'))
section
variable {P : Program} {w : World} {K : PySem.W.Frag} {mg : Str → Option Value} {base : Heap}
theorem scCN : FnScope ["table", "number", "top"] ["table", "number"] (defScope sCheckNum) := ⟨rfl, rfl, rfl, by decide +kernel, rfl, by decide +kernel, by decide +kernel⟩
theorem ok_checkNum0 {f fL : Addr} {fd dL : FuncData} (F : Fun K "check_number" "check_number" sCheckNum f fd) (L : Def1 P w K mg base "limit" 3 fL dL ["table"] spLimit0) : FnOk P w K mg base CX0 4 f fd ["table", "number"] spCN0 := by
  refine F.ok scCN (fun vs H Q E h => ?_) (fun cdv A outer s H vs Q E hr h => ?_)
  · obtain ⟨t, o, te, sc, ones, tens, hun, scales, n, rfl, _⟩ := h
    rfl
  · obtain ⟨t, o, te, sc, ones, tens, hun, scales, n, rfl, TB, n0, n1, k⟩ := h
    refine ⟨_, pss_cons (ps_set (i := 2) scCN.nd rfl (.inl rfl) (pe_call L.ok hr (by rfl) L.g L.k L.b .nil pass0 (pa_cons (pv 0) pa_nil)))
        (pss_one (ps_if (PW.pt (pw_or (pt_cmpR op_lt (pv 1) pe_int (nomark _)) (pw_or1 (pt_cmpR op_ge (pv 1) (pv 2) (nomark _))))) pss_never pss_nil)), ?_⟩
    refine ⟨_, rfl, t, o, te, sc, ones, tens, hun, scales, rfl, TB, fun H1 s1 => ?_⟩
    refine ⟨_, rfl, _, _, rfl, rfl, _, rfl, ite2 (fun z => absurd (of_decide_eq_true z) (by omega)) (fun _ => ?_)⟩
    refine ⟨_, rfl, _, rfl, _, _, rfl, rfl, _, rfl, ite2 (fun z => absurd (of_decide_eq_true z) (by omega)) (fun _ => ?_)⟩
    exact k _ s1
theorem scCR : FnScope ["table", "low", "high", "top"] ["table", "low", "high"] (defScope sCheckRng) := ⟨rfl, rfl, rfl, by decide +kernel, rfl, by decide +kernel, by decide +kernel⟩
theorem ok_checkRng0 {f fL : Addr} {fd dL : FuncData} (F : Fun K "check_range" "check_range" sCheckRng f fd) (L : Def1 P w K mg base "limit" 3 fL dL ["table"] spLimit0) : FnOk P w K mg base CX0 4 f fd ["table", "low", "high"] spCR0 := by
  refine F.ok scCR (fun vs H Q E h => ?_) (fun cdv A outer s H vs Q E hr h => ?_)
  · obtain ⟨t, o, te, sc, ones, tens, hun, scales, lo, hi, rfl, _⟩ := h
    rfl
  · obtain ⟨t, o, te, sc, ones, tens, hun, scales, lo, hi, rfl, TB, h0, h1, h2, k⟩ := h
    refine ⟨_, pss_cons (ps_set (i := 3) scCR.nd rfl (.inl rfl) (pe_call L.ok hr (by rfl) L.g L.k L.b .nil pass0 (pa_cons (pv 0) pa_nil)))
        (pss_one (ps_if (PW.pt (pw_or (pt_cmpR op_lt (pv 1) pe_int (nomark _)) (pw_or (pt_cmpR op_gt (pv 1) (pv 2) (nomark _)) (pw_or1 (pt_cmpR op_ge (pv 2) (pv 3) (nomark _)))))) pss_never pss_nil)), ?_⟩
    refine ⟨_, rfl, t, o, te, sc, ones, tens, hun, scales, rfl, TB, fun H1 s1 => ?_⟩
    refine ⟨_, rfl, _, _, rfl, rfl, _, rfl, ite2 (fun z => absurd (of_decide_eq_true z) (by omega)) (fun _ => ?_)⟩
    refine ⟨_, rfl, _, rfl, _, _, rfl, rfl, _, rfl, ite2 (fun z => absurd (of_decide_eq_true z) (by omega)) (fun _ => ?_)⟩
    refine ⟨_, rfl, _, rfl, _, _, rfl, rfl, _, rfl, ite2 (fun z => absurd (of_decide_eq_true z) (by omega)) (fun _ => ?_)⟩
    exact k _ s1
theorem scCB : FnScope ["table", "number", "low", "high"] ["table", "number", "low", "high"] (defScope sCountB) := ⟨rfl, rfl, rfl, by decide +kernel, rfl, by decide +kernel, by decide +kernel⟩
theorem ok_countB0 {f fN fR fP : Addr} {fd dN dR dP : FuncData} (F : Fun K "count_before" "count_before" sCountB f fd) (N : Def1 P w K mg base "check_number" 4 fN dN ["table", "number"] spCN0) (R : Def1 P w K mg base "check_range" 4 fR dR ["table", "low", "high"] spCR0)
    (L : Def1 P w K mg base "place_within" 4 fP dP ["table", "number", "low", "high"] spPlaceW) : FnOk P w K mg base CX0 5 f fd ["table", "number", "low", "high"] spCB0 := by
  refine F.ok scCB (fun vs H Q E h => ?_) (fun cdv A outer s H vs Q E hr h => ?_)
  · obtain ⟨t, o, te, sc, ones, tens, hun, scales, n, lo, hi, rfl, _⟩ := h
    rfl
  · obtain ⟨t, o, te, sc, ones, tens, hun, scales, n, lo, hi, rfl, TB, n0, n1, h0, h1, h2, k⟩ := h
    refine ⟨_, pss_cons (ps_expr (pe_call N.ok hr (by rfl) N.g N.k N.b .nil pass0 (pa_cons (pv 0) (pa_cons (pv 1) pa_nil))))
        (pss_cons (ps_expr (pe_call R.ok hr (by rfl) R.g R.k R.b .nil pass0 (pa_cons (pv 0) (pa_cons (pv 2) (pa_cons (pv 3) pa_nil)))))
        (pss_one (ps_ret (pe_call L.ok hr (by rfl) L.g L.k L.b .nil pass0 (pa_cons (pv 0) (pa_cons (pv 1) (pa_cons (pv 2) (pa_cons (pv 3) pa_nil)))))))), ?_⟩
    refine ⟨_, rfl, _, rfl, t, o, te, sc, ones, tens, hun, scales, n, rfl, TB, n0, n1, fun H1 s1 => ?_⟩
    refine ⟨_, rfl, _, rfl, _, rfl, t, o, te, sc, ones, tens, hun, scales, lo, hi, rfl, TB.same s1, h0, h1, h2, fun H2 s2 => ?_⟩
    refine ⟨_, rfl, _, rfl, _, rfl, _, rfl, t, o, te, sc, ones, tens, hun, scales, n, lo, hi, rfl, (TB.tb.same s1).same s2, n0, n1, h1, fun ws H' s3 p a => ?_⟩
    rw [place_is (TB.voc p a) h0 h1 h2 n0 n1]
    exact k _ (s1.trans (s2.trans s3))
theorem scBefore : FnScope ["table", "number", "low", "high", "spot"] ["table", "number", "low", "high"] (defScope sBefore) := ⟨rfl, rfl, rfl, by decide +kernel, rfl, by decide +kernel, by decide +kernel⟩
theorem ok_before0 {f fC fP : Addr} {fd dC dP : FuncData} (F : Fun K "before" "before" sBefore f fd) (C : Def1 P w K mg base "count_before" 5 fC dC ["table", "number", "low", "high"] spCB0)
    (L : Def1 P w K mg base "number_within" 4 fP dP ["table", "place", "low", "high"] spNumW) : FnOk P w K mg base CX0 6 f fd ["table", "number", "low", "high"] (spNext0 false) := by
  refine F.ok scBefore (fun vs H Q E h => ?_) (fun cdv A outer s H vs Q E hr h => ?_)
  · obtain ⟨t, o, te, sc, ones, tens, hun, scales, n, lo, hi, rfl, _⟩ := h
    rfl
  · obtain ⟨t, o, te, sc, ones, tens, hun, scales, n, lo, hi, rfl, TB, n0, n1, h0, h1, h2, k⟩ := h
    obtain ⟨kN, kS⟩ := k _ rfl
    have le := ahead_le ones tens hun scales (lo := lo) (hi := hi) (n := n) (by omega)
    have ge := ahead_nneg ones tens hun scales lo hi n
    refine ⟨_, pss_cons (ps_set (i := 4) scBefore.nd rfl (.inl rfl) (pe_op op_sub (pe_call C.ok hr (by rfl) C.g C.k C.b .nil pass0 (pa_cons (pv 0) (pa_cons (pv 1) (pa_cons (pv 2) (pa_cons (pv 3) pa_nil))))) pe_int))
        (pss_one (ps_ret (pe_ifExp (pt_cmpR op_lt (pv 4) pe_int (nomark _)) pe_non (pe_call L.ok (hr.mono (by decide)) (by rfl) L.g L.k L.b .nil pass0 (pa_cons (pv 0) (pa_cons (pv 4) (pa_cons (pv 2) (pa_cons (pv 3) pa_nil)))))))), ?_⟩
    refine ⟨_, rfl, _, rfl, _, rfl, _, rfl, t, o, te, sc, ones, tens, hun, scales, n, lo, hi, rfl, TB, n0, n1, h0, h1, h2, fun H1 s1 => ⟨_, _, rfl, rfl, ?_⟩⟩
    refine ⟨_, rfl, _, _, rfl, rfl, _, rfl, ite2 (fun z => ?_) (fun z => ?_)⟩
    · exact kN (.inl (of_decide_eq_true z)) _ s1
    · have z' : ¬ ahead ones tens hun scales lo hi n - 1 < 0 := fun y => z (decide_eq_true y)
      refine ⟨_, rfl, _, rfl, _, rfl, _, rfl, t, o, te, sc, ones, tens, hun, scales, ahead ones tens hun scales lo hi n - 1, lo, hi, rfl, TB.tb.same s1, h0, h1, h2, by omega, by omega, fun ws r H' s2 p a hN => ?_⟩
      obtain ⟨r0, r1, e⟩ := number_is (TB.voc p a) h0 h1 h2 hN
      exact kS (by show 0 ≤ ahead ones tens hun scales lo hi n - 1; omega) (by show ahead ones tens hun scales lo hi n - 1 ≤ hi - lo; omega) r _ (s1.trans s2) r0 r1 e
theorem scAfter : FnScope ["table", "number", "low", "high", "spot"] ["table", "number", "low", "high"] (defScope sAfter) := ⟨rfl, rfl, rfl, by decide +kernel, rfl, by decide +kernel, by decide +kernel⟩
theorem ok_after0 {f fC fP : Addr} {fd dC dP : FuncData} (F : Fun K "after" "after" sAfter f fd) (C : Def1 P w K mg base "count_before" 5 fC dC ["table", "number", "low", "high"] spCB0)
    (L : Def1 P w K mg base "number_within" 4 fP dP ["table", "place", "low", "high"] spNumW) : FnOk P w K mg base CX0 6 f fd ["table", "number", "low", "high"] (spNext0 true) := by
  refine F.ok scAfter (fun vs H Q E h => ?_) (fun cdv A outer s H vs Q E hr h => ?_)
  · obtain ⟨t, o, te, sc, ones, tens, hun, scales, n, lo, hi, rfl, _⟩ := h
    rfl
  · obtain ⟨t, o, te, sc, ones, tens, hun, scales, n, lo, hi, rfl, TB, n0, n1, h0, h1, h2, k⟩ := h
    obtain ⟨kN, kS⟩ := k _ rfl
    have ge := ahead_nneg ones tens hun scales lo hi n
    refine ⟨_, pss_cons (ps_set (i := 4) scAfter.nd rfl (.inl rfl) (pe_call C.ok hr (by rfl) C.g C.k C.b .nil pass0 (pa_cons (pv 0) (pa_cons (pv 1) (pa_cons (pv 2) (pa_cons (pv 3) pa_nil))))))
        (pss_mid (ps_if (pt_chain op_le op_le (pv 2) (pv 1) (pv 3)) (pss_one (ps_set (i := 4) scAfter.nd rfl (.inl rfl) (pe_op op_add (pv 4) pe_int))) pss_nil)
        (pss_one (ps_ret (pe_ifExp (pt_cmpR op_gt (pv 4) (pe_op op_sub (pv 3) (pv 2)) (nomark _)) pe_non (pe_call L.ok (hr.mono (by decide)) (by rfl) L.g L.k L.b .nil pass0 (pa_cons (pv 0) (pa_cons (pv 4) (pa_cons (pv 2) (pa_cons (pv 3) pa_nil))))))))), ?_⟩
    refine ⟨_, rfl, _, rfl, _, rfl, _, rfl, t, o, te, sc, ones, tens, hun, scales, n, lo, hi, rfl, TB, n0, n1, h0, h1, h2, fun H1 s1 => ?_⟩
    obtain ⟨p, hp⟩ : ∃ p, p = ahead ones tens hun scales lo hi n + (if lo ≤ n ∧ n ≤ hi then 1 else 0) := ⟨_, rfl⟩
    refine ⟨fun τ G => H1 = G ∧ τ = [some (.ref t), some (.int n), some (.int lo), some (.int hi), some (.int p)], ?_, ?_⟩
    · refine ⟨_, rfl, _, rfl, _, _, rfl, rfl, _, rfl, ite2 (fun z => ?_) (fun z => ?_)⟩
      · refine ⟨_, rfl, _, _, rfl, rfl, _, rfl, ite2 (fun y => ?_) (fun y => ?_)⟩
        · refine ⟨_, rfl, _, _, rfl, rfl, rfl, ?_⟩
          rw [hp, if_pos ⟨of_decide_eq_true z, of_decide_eq_true y⟩]
          rfl
        · refine ⟨rfl, ?_⟩
          rw [hp, if_neg (fun q => y (decide_eq_true q.2)), Int.add_zero]
          rfl
      · refine ⟨_, rfl, iteF ⟨rfl, ?_⟩⟩
        rw [hp, if_neg (fun q => z (decide_eq_true q.1)), Int.add_zero]
        rfl
    rintro τ G ⟨rfl, rfl⟩
    rw [if_pos rfl, ← hp] at kN kS
    have p0 : 0 ≤ p := by rw [hp]; split <;> omega
    refine ⟨_, rfl, _, rfl, _, rfl, _, _, rfl, rfl, _, _, rfl, rfl, _, rfl, ite2 (fun z => ?_) (fun z => ?_)⟩
    · exact kN (.inr (of_decide_eq_true z)) _ s1
    · have z' : ¬ p > hi - lo := fun y => z (decide_eq_true y)
      refine ⟨_, rfl, _, rfl, _, rfl, _, rfl, t, o, te, sc, ones, tens, hun, scales, p, lo, hi, rfl, TB.tb.same s1, h0, h1, h2, p0, by omega, fun ws r H' s2 q a hN => ?_⟩
      obtain ⟨r0, r1, e⟩ := number_is (TB.voc q a) h0 h1 h2 hN
      exact kS p0 (by omega) r _ (s1.trans s2) r0 r1 e
end
end LB
set_option Elab.async false
set_option linter.all false
set_option maxRecDepth 100000
set_option maxHeartbeats 4000000
/-! Generators handed to list: an if in the body, a call by keywords alone, a def by its place. -/
namespace Wk
open PySem PySem.Spec PyProof.Rows L2 GenW
section
variable {X : Cx}
def tGIf (c : TT) (t u : TGn) : TGn := fun D ys σ H => c σ H fun b H1 => if b = true then t D ys σ H1 else u D ys σ H1
theorem gs_if {c : Expr} {yes no : List Stmt} {pos : Pos} {tc : TT} {t u : TGn} (hc : PT X c tc) (ha : GSs X yes t) (hb : GSs X no u) : GS X (.If c yes no pos) (tGIf tc t u) := ⟨fun A S ip R n ys s₀ cc fs go out gu lv s σ H D g hn k hI q => by
  rw [exec_If]
  refine seg_at ?_
  show Seg _ A R _ n s₀ _ ((isTrue _ X.env _ >>= fun b => if b = true then execs yes X.env else execs no X.env).wrap go out gu lv) fs s
  refine seg_bind_wrap ?_
  rw [g.over]
  obtain ⟨acc, c1, r, I⟩ := hI
  refine wpAny_mono (hc.run _ s σ H _ I q) (fun b s' z => ?_) fun e s' z => k.exc n s₀ e s' z
  obtain ⟨H1, I1, q1⟩ := z
  cases b with
  | true => exact ha.run A S ip R n ys s₀ _ fs go out gu lv s' σ H1 D g hn k ⟨acc, c1, r, I1⟩ q1
  | false => exact hb.run A S ip R n ys s₀ _ fs go out gu lv s' σ H1 D g hn k ⟨acc, c1, r, I1⟩ q1⟩
theorem gss_one {st : Stmt} {t : TGn} (a : GS X st t) : GSs X [st] (tGThen t tG0) := gss_cons a gss_nil
/-- f(k = v, ..) of a generator def -/
def tCallGK (m : Nat) (sp : SpG) (gV : List V → List V → List V) (E : XK) (tk : TA) : TGen := fun σ H cont => tk σ H fun zs H2 => zs.length = m ∧ sp (gV [] zs) H2 cont E
theorem pgen_callK {k : Nat} {f : Addr} {fd : FuncData} {ps ks : List Str} {sp : SpG} {E : XK} {x : Str} {p pos : Pos} {kws : List Keyword} {tk : TA} {g : List Value → List Value → List Value} {gV : List V → List V → List V}
    (F : GFn X.prog X.w X.K X.mg X.base k f fd ps sp) (hr : Room k X.A) (hg : Gl X x) (hm : X.mg x = some (.ref f)) (hk : PySem.W.keepIn X.K (.ref f) = true) (hb : KBn X.K fd ps 0 ks g gV)
    (hkw : PK X kws tk) (hall : (backToKw pos (keywordEach kws X.env)).all (·.1.isSome) = true := by rfl) (hks : (backToKw pos (keywordEach kws X.env)).filterMap (·.1) = ks := by rfl)
    (hdb : (x == ("__debug__" : Str)) = false := by decide) (hpl : ((backTo pos (starEach [] X.env)).any (·.1) || (backToKw pos (keywordEach kws X.env)).any (·.1.isNone)) = false := by rfl) :
    PGen X k (.Call (.Name x p) [] kws pos) (tCallGK ks.length sp gV E tk) E := by
  refine ⟨fun pins s σ H cont I h => ?_⟩
  refine wpAny_Call_Name_kw (ld_glob I hg hm ?_ hdb)
  refine PySem.W.callWith_KW0 (h₀ := X.base) I.ok.mod.kin hk hall (thn (hkw.run pos pins s σ H _ I h) ?_) hpl
  rintro ws s1 ⟨zs, H1, I1, rz, l2, q2⟩
  refine ⟨I1.kIn, ?_⟩
  rw [hks]
  have r2 := hb.rel .nil rz
  refine wpAny_call (codeAny_mono (F.run X.A X.stack s1 H1 ⟨[], ks.zip ws⟩ (g [] ws) (gV [] zs) cont E hr I1.env0 (hb.to s1 [] ws I1.kIn rfl (rz.length.symm.trans l2)) r2 q2) fun r s' hq => ?_)
  cases r with
  | error e => exact False.elim hq
  | ok fl =>
    cases fl with
    | ret u => exact ⟨H1, s1, [], I1, .nil, hq⟩
    | next => exact False.elim hq
    | brk => exact False.elim hq
    | cont => exact False.elim hq
end
end Wk
set_option Elab.async false
set_option linter.all false
set_option maxRecDepth 100000
set_option maxHeartbeats 4000000
/-! Walks in alphabetical order: the beginnings that lead into a range, and all that a walk hands out. -/
namespace LB
open PySem L2 Wk
open Bg (Bg Wo)
/-- a beginning that leads into the range, one word behind b -/
structure Lead (F : Int → Int) (b d : Bg) : Prop where
  ok : Bg.Ok d
  far : Bg.far d < Bg.far b
  m : d.m ≤ b.m
  pos : 0 < Bg.cf F d
def spLeadF (K : PySem.W.Frag) : Sp := fun vs H Q _ => ∃ (p : Addr) (b : Bg) (l : Addr) (vz : List (Addr × Str × Wo)) (lo hi : Int), vs = [.ref p, .ref l, .int lo, .int hi] ∧ SqT K H p (BgV b) ∧ Bg.Ok b ∧ VocAt H l vz ∧ vz.length ≤ 1000 ∧ (∀ z ∈ vz, Bg.WOk z.2.2) ∧
  ∀ (q : Addr) (ds : List (Addr × Bg)) (H' : Hp), H q = none → Same H H' → H' q = some (.lst (ds.map fun d => V.ref d.1)) → ds.length ≤ 1000 → (∀ d ∈ ds, SqT K H' d.1 (BgV d.2) ∧ Lead (Bg.fb lo hi) b d.2) →
    ds.map (·.2) = (((stepsOf b (vz.map (·.2))).filter fun e => decide (0 < Bg.cf (Bg.fb lo hi) e.2)).map (·.2)).reverse → Q (.ref q) H'
section
variable {P : Program} {w : World} {K : PySem.W.Frag} {mg : Str → Option Value} {base : Heap}
theorem scLeadF : FnScope ["beginning", "words", "low", "high", "longer", "_", "then"] ["beginning", "words", "low", "high"] (defScope sLeading) := ⟨rfl, rfl, rfl, by decide +kernel, rfl, by decide +kernel, by decide +kernel⟩
theorem ok_leadF {f fT fC : Addr} {fd dT dC : FuncData} (F : Fun K "_leading_into" "_leading_into" sLeading f fd) (DT : Def1 P w K mg base "steps" 3 fT dT ["beginning", "words"] (spSteps K)) (DC : Def1 P w K mg base "count_within" 2 fC dC ["beginning", "low", "high"] (spCount K)) :
    FnOk P w K mg base CX0 4 f fd ["beginning", "words", "low", "high"] (spLeadF K) := by
  refine F.ok scLeadF (fun vs H Q E h => ?_) (fun cdv A outer s H vs Q E hr h => ?_)
  · obtain ⟨p, b, l, vz, lo, hi, rfl, _⟩ := h
    rfl
  · obtain ⟨p, b, l, vz, lo, hi, rfl, hb, ok, hv, hl, hw, k⟩ := h
    have hr2 : Room 2 _ := hr.mono (by decide)
    refine ⟨_, pss_mid (ps_setLc (i := 4) (own := [("_", 5), ("then", 6)]) (g := gTup K 2 (gCons (gName 5) (gCons (gName 6) gNil))) (by rfl) scLeadF.nd rfl rfl (sw_true rfl rfl rfl (by decide +kernel)) (pi_list (pe_call DT.ok hr (by rfl) DT.g DT.k DT.b .nil pass0 (pa_cons (pv 0) (pa_cons (pv 1) pa_nil))))
        (blkOk_by (own := [("_", 5), ("then", 6)]) (N := ["beginning", "words", "low", "high", "longer", "_", "then"]) (sc := defScope sLeading) (by decide +kernel))
        (fun _ _ _ _ _ => pg_tup (by rfl) (pgs_cons (pg_name (i := 5) scLeadF.nd rfl (Or.inl rfl)) (pgs_cons (pg_name (i := 6) scLeadF.nd rfl (Or.inl rfl)) pgs_nil)))
        (fun _ _ _ _ _ => pts_one (pt_cmpR op_gt (pe_call DC.ok hr2 (by rfl) DC.g DC.k DC.b .nil pass0 (pa_cons (pv 6) (pa_cons (pv 2) (pa_cons (pv 3) pa_nil)))) pe_int (nomark _)))
        (fun _ _ _ _ _ => pv 6))
      (pss_one (ps_ret (pe_revL (pv 4)))), ?_⟩
    generalize hF : Bg.fb lo hi = FF at k
    refine ⟨fun τ G => ∃ (D : Addr) (x y : Option V) (ds : List (Addr × Bg)), τ = [some (.ref p), some (.ref l), some (.int lo), some (.int hi), some (.ref D), x, y] ∧ H D = none ∧ Same H G ∧ G D = some (.lst (ds.map fun d => V.ref d.1)) ∧ ds.length ≤ 1000 ∧
      (∀ d ∈ ds, SqT K G d.1 (BgV d.2) ∧ Lead FF b d.2) ∧ ds.map (·.2) = ((stepsOf b (vz.map (·.2))).filter fun e => decide (0 < Bg.cf FF e.2)).map (·.2), ?_, ?_⟩
    · refine ⟨_, rfl, _, rfl, p, b, l, vz, rfl, hb, ok, hv, hl, hw, fun u cs G1 nu s1 hst ec => ?_⟩
      have cl : cs.length ≤ 1000 := by
        have h1 := congrArg List.length ec
        rw [List.length_map] at h1
        have h2 : (stepsOf b (vz.map (·.2))).length ≤ (vz.map (·.2)).length := List.length_filterMap_le ..
        rw [List.length_map] at h2
        omega
      refine ⟨u, rfl, ⟨_, SqL.of hst.1⟩, fun D nD => lc_it (walk_list (K := K) (a := u) (xs := cs.map fun c => V.ref c.1)) (fun i G => ∃ ds : List (Addr × Bg), G D = some (.lst (ds.map fun d => V.ref d.1)) ∧ Same G1 G ∧ ds.length ≤ i ∧ (∀ d ∈ ds, SqT K G d.1 (BgV d.2) ∧ Lead FF b d.2) ∧
        ds.map (·.2) = (((cs.take i).map pairS).filter fun e => decide (0 < Bg.cf FF e.2)).map (·.2)) ?_ ?_ ?_ ?_⟩
      · exact ⟨[], upd_same, same_new nD, Nat.le_refl _, fun d hd => (nomatch hd), rfl⟩
      · rintro i G _ ⟨ds, h1, h2, _⟩
        exact SqL.of (h2 _ _ hst.1)
      · rintro i x G G' hil ⟨ds, h1, h2, h3, h4, h5⟩ ⟨rfl, hx⟩
        obtain ⟨c, hc, rfl⟩ := cs_get hx
        obtain ⟨c1, c2⟩ := hst.2 c (List.mem_of_getElem? hc)
        have pc : (c.2.1, c.2.2.2) ∈ stepsOf b (vz.map (·.2)) := by
          rw [← ec]
          exact List.mem_map.mpr ⟨c, List.mem_of_getElem? hc, rfl⟩
        obtain ⟨wo, hwo, hfol⟩ := steps_mem pc
        have wk : Bg.WOk wo := by
          obtain ⟨z, hz, ez⟩ := List.mem_map.mp hwo
          have := hw z hz
          rw [ez] at this
          exact this
        have okc : Bg.Ok c.2.2.2 := Bg.fol_ok ok wk hfol
        have tk : (cs.take (i + 1)).map pairS = (cs.take i).map pairS ++ [pairS c] := by
          rw [List.take_add_one, hc, List.map_append]
          rfl
        refine ⟨c.1, _, rfl, SqT.of (h2 _ _ c1), rfl, _, _, rfl, _, _, rfl, rfl, rfl, ?_⟩
        refine ⟨_, rfl, _, rfl, _, rfl, c.2.2.1, c.2.2.2, lo, hi, rfl, h2.tp c2, okc, ?_⟩
        rw [hF]
        refine ⟨_, _, rfl, rfl, _, rfl, ite2 (fun z => ?_) (fun z => ?_)⟩
        · have z' : Bg.cf FF c.2.2.2 > 0 := of_decide_eq_true z
          refine ⟨_, rfl, _, h1, by rw [List.length_map]; exact Nat.lt_of_lt_of_le (Nat.lt_of_le_of_lt (Nat.le_trans h3 (Nat.le_of_lt (Nat.lt_of_lt_of_le hil (by rw [List.length_map]; exact cl)))) (Nat.lt_succ_self 1000)) (by decide), ds ++ [(c.2.2.1, c.2.2.2)], ?_, ?_, ?_, ?_, ?_⟩
          · rw [upd_same, List.map_append]
            rfl
          · exact fun q o e => by rw [upd_ne (ne_of_none e nD)]; exact h2 _ _ e
          · rw [List.length_append]
            exact Nat.succ_le_succ h3
          · intro d hd
            rcases List.mem_append.mp hd with hd | hd
            · exact ⟨(h4 d hd).1.grow h1, (h4 d hd).2⟩
            · rw [List.mem_singleton.mp hd]
              exact ⟨(h2.tp c2).grow h1, okc, Bg.fol_far ok wk hfol, Bg.fol_m hfol, z'⟩
          · rw [tk, List.filter_append, List.map_append, List.map_append, h5]
            congr 1
            rw [List.filter_cons, if_pos (decide_eq_true (show 0 < Bg.cf FF (pairS c).2 from z'))]
            rfl
        · have z' : ¬ Bg.cf FF c.2.2.2 > 0 := fun y => z (decide_eq_true y)
          refine ⟨ds, h1, h2, Nat.le_succ_of_le h3, h4, ?_⟩
          rw [tk, List.filter_append, List.map_append, h5, List.filter_cons, if_neg (show ¬ decide (0 < Bg.cf FF (pairS c).2) = true from fun q => z' (of_decide_eq_true q))]
          simp
      · rintro G ⟨ds, h1, h2, h3, h4, h5⟩
        rw [List.length_map] at h3 h5
        rw [List.take_length, ec] at h5
        exact ⟨D, _, _, ds, rfl, s1.free nD, s1.trans h2, h1, by omega, h4, h5⟩
    rintro τ G ⟨D, x, y, ds, rfl, nD, s1, h1, h3, h4, h5⟩
    refine ⟨_, rfl, D, _, rfl, SqL.of h1, fun q nq => ?_⟩
    have s2 := same_new (x := .lst (ds.map fun d => V.ref d.1).reverse) nq
    refine k q ds.reverse _ (s1.free nq) (s1.trans s2) ?_ (by rw [List.length_reverse]; exact h3) (fun d hd => ⟨s2.tp (h4 d (List.mem_reverse.mp hd)).1, (h4 d (List.mem_reverse.mp hd)).2⟩) (by rw [List.map_reverse, h5])
    rw [upd_same, List.map_reverse]
end
end LB
set_option Elab.async false
set_option linter.all false
set_option maxRecDepth 100000
set_option maxHeartbeats 4000000
/-! All that a walk hands out: the mathematics. -/
namespace LB
open PySem L2 Wk
open Bg (Bg Wo)
section
variable {ones tens : List Str} {hun : Str} {scales : List Str} {ws : List (Str × Wo)} {lo hi : Int}
theorem cfz_none (c : Bg) : Bg.cf (fun _ => 0) c = 0 := by
  have h := Bg.cf_add (fun _ => 0) (fun _ => 0) c
  have e : (fun x : Int => (fun _ => 0 : Int → Int) x + (fun _ => 0 : Int → Int) x) = fun _ => 0 := by
    funext x
    rfl
  rw [e] at h
  omega
theorem cfz_sums (f : Nat → Int → Int) (c : Bg) : ∀ n, Bg.cf (fun x => Bg.sumR (fun i => f i x) n) c = Bg.sumR (fun i => Bg.cf (f i) c) n
  | 0 => cfz_none c
  | n + 1 => by
    show Bg.cf (fun x => Bg.sumR (fun i => f i x) n + f n x) c = Bg.sumR (fun i => Bg.cf (f i) c) n + Bg.cf (f n) c
    rw [Bg.cf_add, cfz_sums f c n]
theorem sumR_ge {f : Nat → Int} : ∀ n, (∀ j, j < n → 0 ≤ f j) → ∀ i, i < n → f i ≤ Bg.sumR f n
  | n + 1, h, i, hi => by
    show f i ≤ Bg.sumR f n + f n
    have a := Bg.sumR_nonneg n fun j hj => h j (Nat.lt_succ_of_lt hj)
    have b := h n (Nat.lt_succ_self n)
    rcases Nat.lt_succ_iff_lt_or_eq.mp hi with z | z
    · have := sumR_ge n (fun j hj => h j (Nat.lt_succ_of_lt hj)) i z
      omega
    · rw [z]
      omega
/-- one number of the range -/
theorem cf_part {c : Bg} (ok : Bg.Ok c) {m : Int} (h1 : lo ≤ m) (h2 : m ≤ hi) : Bg.cf (Bg.fb m m) c ≤ Bg.cf (Bg.fb lo hi) c := by
  have e := Bg.fb_sum lo (hi - lo + 1).toNat
  rw [show lo + (((hi - lo + 1).toNat : Nat) : Int) - 1 = hi by omega] at e
  have e' : Bg.fb lo hi = fun x => Bg.sumR (fun i => Bg.fb (lo + (i : Int)) (lo + (i : Int)) x) (hi - lo + 1).toNat := e
  rw [e', cfz_sums]
  have z := sumR_ge (f := fun i : Nat => Bg.cf (Bg.fb (lo + (i : Int)) (lo + (i : Int))) c) (hi - lo + 1).toNat (fun j _ => Bg.cf_nonneg ok) (m - lo).toNat (by omega)
  have z : Bg.cf (Bg.fb (lo + (((m - lo).toNat : Nat) : Int)) (lo + (((m - lo).toNat : Nat) : Int))) c ≤ _ := z
  rw [show lo + (((m - lo).toNat : Nat) : Int) = m by omega] at z
  exact z
/-- the beginnings one word behind b that lead into the range, in order -/
def leads (lo hi : Int) (ws : List (Str × Wo)) (b : Bg) : List (Str × Bg) := (stepsOf b ws).filter fun e => decide (0 < Bg.cf (Bg.fb lo hi) e.2)
def ownI (lo hi : Int) (b : Bg) : List Int := if endsB lo hi b = true then [b.t + b.g] else []
def ordN (lo hi : Int) (ws : List (Str × Wo)) : Nat → Bg → List Int
  | 0, _ => []
  | n + 1, b => ownI lo hi b ++ ((leads lo hi ws b).map fun e => ordN lo hi ws n e.2).flatten
theorem lead_step (V : Voc ones tens hun scales ws) {b : Bg} {e : Str × Bg} (ok : Bg.Ok b) (h : e ∈ leads lo hi ws b) : ∃ x, x ∈ Bg.all scales.length ∧ e.1 = wd ones tens hun scales x ∧ Bg.fol b x = some e.2 ∧ Bg.Ok e.2 ∧ Bg.far e.2 < Bg.far b ∧ e.2.m ≤ b.m ∧ 0 < Bg.cf (Bg.fb lo hi) e.2 := by
  obtain ⟨h1, h2⟩ := List.mem_filter.mp h
  obtain ⟨x, hx, hf⟩ := steps_mem h1
  obtain ⟨ew, xa⟩ := V.word hx
  have wk := Bg.all_ok xa
  exact ⟨x, xa, ew, hf, Bg.fol_ok ok wk hf, Bg.fol_far ok wk hf, Bg.fol_m hf, of_decide_eq_true h2⟩
theorem ord_fuel (V : Voc ones tens hun scales ws) : ∀ (n m : Nat) {b : Bg}, Bg.Ok b → Bg.far b < n → Bg.far b < m → ordN lo hi ws n b = ordN lo hi ws m b
  | 0, _, _, _, h, _ => absurd h (Nat.not_lt_zero _)
  | _ + 1, 0, _, _, _, h => absurd h (Nat.not_lt_zero _)
  | n + 1, m + 1, b, ok, h1, h2 => by
    unfold ordN
    congr 2
    refine List.map_congr_left fun e he => ?_
    obtain ⟨x, _, _, _, oke, fe, _, _⟩ := lead_step V ok he
    exact ord_fuel V n m oke (by omega) (by omega)
def ordB (lo hi : Int) (ws : List (Str × Wo)) (b : Bg) : List Int := ordN lo hi ws (Bg.far b + 1) b
theorem ord_un (V : Voc ones tens hun scales ws) {b : Bg} (ok : Bg.Ok b) : ordB lo hi ws b = ownI lo hi b ++ ((leads lo hi ws b).map fun e => ordB lo hi ws e.2).flatten := by
  show ownI lo hi b ++ ((leads lo hi ws b).map fun e => ordN lo hi ws (Bg.far b) e.2).flatten = _
  congr 2
  refine List.map_congr_left fun e he => ?_
  obtain ⟨x, _, _, _, oke, fe, _, _⟩ := lead_step V ok he
  exact ord_fuel V _ _ oke fe (Nat.lt_succ_self _)
theorem sumL_leads {F : Int → Int} : ∀ {l : List (Str × Bg)}, (∀ e ∈ l, 0 ≤ Bg.cf F e.2) → Bg.sumL (cfS F) l = Bg.sumL (cfS F) (l.filter fun e => decide (0 < Bg.cf F e.2))
  | [], _ => rfl
  | e :: l, h => by
    have ih := sumL_leads (F := F) (l := l) fun x hx => h x (List.mem_cons_of_mem _ hx)
    have e0 := h e List.mem_cons_self
    rw [List.filter_cons]
    by_cases c : 0 < Bg.cf F e.2
    · rw [if_pos (decide_eq_true c)]
      show Bg.cf F e.2 + Bg.sumL (cfS F) l = Bg.cf F e.2 + Bg.sumL (cfS F) _
      rw [ih]
    · rw [if_neg (fun z => c (of_decide_eq_true z))]
      show Bg.cf F e.2 + Bg.sumL (cfS F) l = _
      rw [← ih]
      omega
theorem ord_len (V : Voc ones tens hun scales ws) (lh : lo ≤ hi) : ∀ (n : Nat) {b : Bg}, Bg.Ok b → b.m ≤ scales.length + 1 → Bg.far b < n → ((ordN lo hi ws n b).length : Int) = Bg.cf (Bg.fb lo hi) b
  | 0, _, _, _, h => absurd h (Nat.not_lt_zero _)
  | n + 1, b, ok, bm, h => by
    have cnt := steps_count (F := Bg.fb lo hi) (ws := ws) ok bm V.all
    rw [Bg.own_code lh, sumL_leads (step_nneg V ok)] at cnt
    rw [cnt]
    unfold ordN
    rw [List.length_append, Int.natCast_add]
    congr 1
    · unfold ownI endsB
      split <;> rfl
    · have main : ∀ l : List (Str × Bg), (∀ e ∈ l, Bg.Ok e.2 ∧ e.2.m ≤ scales.length + 1 ∧ Bg.far e.2 < n) → (((l.map fun e => ordN lo hi ws n e.2).flatten.length : Nat) : Int) = Bg.sumL (cfS (Bg.fb lo hi)) l := by
        intro l
        induction l with
        | nil => intro _; rfl
        | cons e l ih =>
          intro hl
          obtain ⟨a, b', c⟩ := hl e List.mem_cons_self
          rw [List.map_cons, List.flatten_cons, List.length_append, Int.natCast_add, ih fun x hx => hl x (List.mem_cons_of_mem _ hx), ord_len V lh n a b' c]
          rfl
      refine main _ fun e he => ?_
      obtain ⟨x, _, _, _, oke, fe, me, _⟩ := lead_step V ok he
      exact ⟨oke, by omega, by omega⟩
theorem ends_iff {b : Bg} : endsB lo hi b = true ↔ Bg.has b = true ∧ lo ≤ b.t + b.g ∧ b.t + b.g ≤ hi := by
  unfold endsB
  rw [Bool.and_eq_true, Bool.and_eq_true, decide_eq_true_eq, decide_eq_true_eq]
theorem ord_path (V : Voc ones tens hun scales ws) : ∀ (n : Nat) {b : Bg} {x : Int}, Bg.Ok b → x ∈ ordN lo hi ws n b → ∃ (R : List Wo) (c : Bg), (∀ y ∈ R, y ∈ Bg.all scales.length) ∧ Bg.folL b R = some c ∧ Bg.has c = true ∧ c.t + c.g = x ∧ lo ≤ x ∧ x ≤ hi
  | 0, _, _, _, h => nomatch h
  | n + 1, b, x, ok, h => by
    rcases List.mem_append.mp h with h | h
    · unfold ownI at h
      by_cases e : endsB lo hi b = true
      · rw [if_pos e] at h
        obtain ⟨e1, e2, e3⟩ := ends_iff.mp e
        have := List.mem_singleton.mp h
        subst this
        exact ⟨[], b, by simp, rfl, e1, rfl, e2, e3⟩
      · rw [if_neg e] at h
        cases h
    · obtain ⟨l, hl, hx⟩ := List.mem_flatten.mp h
      obtain ⟨e, he, rfl⟩ := List.mem_map.mp hl
      obtain ⟨y, ya, _, hf, oke, _⟩ := lead_step V ok he
      obtain ⟨R, c, r1, r2, r3, r4, r5⟩ := ord_path V n oke hx
      refine ⟨y :: R, c, fun z hz => ?_, ?_, r3, r4, r5⟩
      · rcases List.mem_cons.mp hz with rfl | hz
        · exact ya
        · exact r1 z hz
      · rw [Bg.folL_one hf]
        exact r2
theorem ord_has (V : Voc ones tens hun scales ws) : ∀ (R : List Wo) (n : Nat) {b c : Bg}, Bg.Ok b → b.m ≤ scales.length + 1 → Bg.far b < n → (∀ y ∈ R, y ∈ Bg.all scales.length) → Bg.folL b R = some c → Bg.has c = true → lo ≤ c.t + c.g → c.t + c.g ≤ hi → c.t + c.g ∈ ordN lo hi ws n b
  | _, 0, _, _, _, _, h, _, _, _, _, _ => absurd h (Nat.not_lt_zero _)
  | [], n + 1, b, c, ok, bm, _, _, hf, hc, h1, h2 => by
    cases hf
    refine List.mem_append_left _ ?_
    unfold ownI
    rw [if_pos (ends_iff.mpr ⟨hc, h1, h2⟩)]
    exact List.mem_cons_self
  | y :: R, n + 1, b, c, ok, bm, hn, hR, hf, hc, h1, h2 => by
    cases e : Bg.fol b y with
    | none =>
      unfold Bg.folL at hf
      rw [e] at hf
      cases hf
    | some d =>
      rw [Bg.folL_one e] at hf
      have ya := hR y List.mem_cons_self
      have hR' := fun z hz => hR z (List.mem_cons_of_mem _ hz)
      have okd := Bg.fol_ok ok (Bg.all_ok ya) e
      have fd := Bg.fol_far ok (Bg.all_ok ya) e
      have md := Bg.fol_m e
      have one := hit_path V R okd (Nat.le_trans md bm) hR' hf hc rfl
      have pos : 0 < Bg.cf (Bg.fb lo hi) d := by
        have := cf_part okd h1 h2
        omega
      refine List.mem_append_right _ (List.mem_flatten.mpr ⟨_, List.mem_map.mpr ⟨(wd ones tens hun scales y, d), List.mem_filter.mpr ⟨steps_of_mem (V.mem ya) e, decide_eq_true pos⟩, rfl⟩, ?_⟩)
      exact ord_has V R n okd (Nat.le_trans md bm) (by show Bg.far d < n; omega) hR' hf hc h1 h2
/-- the name of a number by its path -/
theorem nm_path (V : Voc ones tens hun scales ws) {A : List Wo} {c : Bg} (hA : ∀ y ∈ A, y ∈ Bg.all scales.length) (hf : Bg.folL (Bg.start scales.length) A = some c) (hc : Bg.has c = true) (x0 : 0 ≤ c.t + c.g) (x1 : c.t + c.g < Bg.W (scales.length + 1)) :
    nmL ones tens hun scales (c.t + c.g) = A.map (wd ones tens hun scales) := by
  obtain ⟨d, d1, d2, d3⟩ := Bg.name_path x0 x1
  have one := Bg.start_all (k := scales.length) x0 (Int.le_refl _) x1
  exact (path_words V (Bg.start_ok _) (Nat.le_refl _) hA Bg.name_all hf d1 hc d2 rfl d3 (by omega)).symm
theorem ltL_more : ∀ (p : List Str) (a : Str) (r : List Str), ltL p (p ++ a :: r) = true
  | [], _, _ => rfl
  | x :: p, a, r => by
    show (if WkI.ltS x x = true then true else if x = x then ltL p (p ++ a :: r) else false) = true
    rw [ltS_irrefl, if_neg Bool.false_ne_true, if_pos rfl]
    exact ltL_more p a r
theorem ltL_mid : ∀ (p : List Str) {a b : Str} (r s : List Str), WkI.ltS a b = true → ltL (p ++ a :: r) (p ++ b :: s) = true
  | [], a, b, r, s, h => by
    show (if WkI.ltS a b = true then true else if a = b then ltL r s else false) = true
    rw [h, if_pos rfl]
  | x :: p, a, b, r, s, h => by
    show (if WkI.ltS x x = true then true else if x = x then ltL (p ++ a :: r) (p ++ b :: s) else false) = true
    rw [ltS_irrefl, if_neg Bool.false_ne_true, if_pos rfl]
    exact ltL_mid p r s h
theorem ord_pw (V : Voc ones tens hun scales ws) (lo0 : 0 ≤ lo) (h1 : hi < Bg.W (scales.length + 1)) : ∀ (n : Nat) (P : List Wo) {b : Bg}, Bg.Ok b → (∀ y ∈ P, y ∈ Bg.all scales.length) → Bg.folL (Bg.start scales.length) P = some b →
    (ordN lo hi ws n b).Pairwise fun x y => ltL (nmL ones tens hun scales x) (nmL ones tens hun scales y) = true
  | 0, _, _, _, _, _ => List.Pairwise.nil
  | n + 1, P, b, ok, hP, hf => by
    have nm : ∀ {e : Str × Bg} {x : Int}, e ∈ leads lo hi ws b → x ∈ ordN lo hi ws n e.2 → ∃ R : List Wo, nmL ones tens hun scales x = P.map (wd ones tens hun scales) ++ e.1 :: R.map (wd ones tens hun scales) := fun {e x} he hx => by
      obtain ⟨y, ya, ew, hfy, oke, _⟩ := lead_step V ok he
      obtain ⟨R, c, r1, r2, r3, r4, r5, r6⟩ := ord_path V n oke hx
      have hA : ∀ z ∈ P ++ y :: R, z ∈ Bg.all scales.length := fun z hz => by
        rcases List.mem_append.mp hz with hz | hz
        · exact hP z hz
        rcases List.mem_cons.mp hz with rfl | hz
        · exact ya
        · exact r1 z hz
      have hfA : Bg.folL (Bg.start scales.length) (P ++ y :: R) = some c := by
        rw [Bg.folL_app, hf]
        show Bg.folL b (y :: R) = some c
        rw [Bg.folL_one hfy]
        exact r2
      have q := nm_path V hA hfA r3 (by omega) (by omega)
      rw [r4] at q
      refine ⟨R, ?_⟩
      rw [q, List.map_append, List.map_cons, ew]
    show (ownI lo hi b ++ ((leads lo hi ws b).map fun e => ordN lo hi ws n e.2).flatten).Pairwise _
    refine List.pairwise_append.mpr ⟨?_, List.pairwise_flatten.mpr ⟨?_, ?_⟩, ?_⟩
    · unfold ownI
      split
      · exact List.pairwise_singleton _ _
      · exact List.Pairwise.nil
    · intro l hl
      obtain ⟨e, he, rfl⟩ := List.mem_map.mp hl
      obtain ⟨y, ya, ew, hfy, oke, _⟩ := lead_step V ok he
      refine ord_pw V lo0 h1 n (P ++ [y]) oke (fun z hz => ?_) ?_
      · rcases List.mem_append.mp hz with hz | hz
        · exact hP z hz
        · rw [List.mem_singleton.mp hz]
          exact ya
      · rw [Bg.folL_app, hf]
        show Bg.folL b [y] = _
        rw [Bg.folL_one hfy]
        rfl
    · refine List.pairwise_map.mpr ((List.Pairwise.and_mem.mp ((steps_asc b V.asc).filter _)).imp ?_)
      rintro e f ⟨he, hf', lt⟩ x hx y hy
      obtain ⟨R, ex⟩ := nm he hx
      obtain ⟨S, ey⟩ := nm hf' hy
      rw [ex, ey]
      exact ltL_mid _ _ _ lt
    · intro x hx y hy
      obtain ⟨l, hl, hy⟩ := List.mem_flatten.mp hy
      obtain ⟨e, he, rfl⟩ := List.mem_map.mp hl
      obtain ⟨R, ey⟩ := nm he hy
      unfold ownI at hx
      by_cases c : endsB lo hi b = true
      · rw [if_pos c] at hx
        have := List.mem_singleton.mp hx
        subst this
        obtain ⟨c1, c2, c3⟩ := ends_iff.mp c
        rw [ey, nm_path V hP hf c1 (by omega) (by omega)]
        exact ltL_more _ _ _
      · rw [if_neg c] at hx
        cases hx
/-- a walk hands out the numbers of its range, in the order of their names -/
theorem walk_is (V : Voc ones tens hun scales ws) (lo0 : 0 ≤ lo) (lh : lo ≤ hi) (h1 : hi < Bg.W (scales.length + 1)) : (ordB lo hi ws (Bg.start scales.length)).Pairwise (fun x y => ltL (nmL ones tens hun scales x) (nmL ones tens hun scales y) = true) ∧
    (∀ x, x ∈ ordB lo hi ws (Bg.start scales.length) ↔ lo ≤ x ∧ x ≤ hi) ∧ ((ordB lo hi ws (Bg.start scales.length)).length : Int) = hi - lo + 1 := by
  refine ⟨ord_pw V lo0 h1 _ [] (Bg.start_ok _) (fun y hy => nomatch hy) rfl, fun x => ⟨fun h => ?_, fun ⟨a, b⟩ => ?_⟩, ?_⟩
  · obtain ⟨_, _, _, _, _, _, r⟩ := ord_path V _ (Bg.start_ok _) h
    exact r
  · obtain ⟨c, hc, hh, e⟩ := Bg.name_path (k := scales.length) (show 0 ≤ x by omega) (show x < Bg.W (scales.length + 1) by omega)
    have z := ord_has V (lo := lo) (hi := hi) (Bg.nameW x (scales.length + 1)) (Bg.far (Bg.start scales.length) + 1) (Bg.start_ok _) (Nat.le_refl _) (Nat.lt_succ_self _) Bg.name_all hc hh (by omega) (by omega)
    rw [e] at z
    exact z
  · rw [← Bg.start_all lo0 lh h1]
    exact ord_len V lh _ (Bg.start_ok _) (Nat.le_refl _) (Nat.lt_succ_self _)
theorem pw_nodup {l : List Int} (h : l.Pairwise fun x y => ltL (nmL ones tens hun scales x) (nmL ones tens hun scales y) = true) : l.Nodup := h.imp fun {x y} lt e => by
  rw [e, ltL_irrefl] at lt
  cases lt
/-- two lists of the same numbers in the order of their names are one -/
theorem pw_one {l m : List Int} (hl : l.Pairwise fun x y => ltL (nmL ones tens hun scales x) (nmL ones tens hun scales y) = true) (hm : m.Pairwise fun x y => ltL (nmL ones tens hun scales x) (nmL ones tens hun scales y) = true) (h : ∀ x, x ∈ l ↔ x ∈ m) : l = m :=
  List.Perm.eq_of_pairwise (le := fun x y => ltL (nmL ones tens hun scales x) (nmL ones tens hun scales y) = true) (fun x y _ _ h1 h2 => by
    rw [ltL_asym h1] at h2
    cases h2) hl hm ((List.perm_ext_iff_of_nodup (pw_nodup hl) (pw_nodup hm)).mpr h)
end
end LB
set_option Elab.async false
set_option linter.all false
set_option maxRecDepth 100000
set_option maxHeartbeats 4000000
/-! Great ranges: the law's helpers. -/
namespace LB
open PySem L2 Wk
open Bg (Bg Wo)
theorem Drawn.more {H G : Hp} {p : Addr} {s c n m : Int} (d : Drawn H p s c n G) (h : n ≤ m) : Drawn H p s c m G := by
  obtain ⟨d', c', a, b, k⟩ := d
  exact ⟨d', c', a, by omega, k⟩
def spName : Sp := fun vs H Q _ => ∃ (t o te sc : Addr) (ones tens : List Str) (hun : Str) (scales : List Str) (n : Int), vs = [.ref t, .int n] ∧ Tab H t ones tens hun scales o te sc ∧ 0 ≤ n ∧ n < Bg.W (scales.length + 1) ∧ ∀ H', Same H H' → Q (.str (nameT ones tens hun scales n)) H'
def spRange : Sp := fun vs H Q _ => ∃ (p : Addr) (d s c : Int) (k : Nat), vs = [.ref p, .int (Bg.W (k + 1))] ∧ RngAt H p d s c ∧ k ≤ 20 ∧ c < 2 ^ 28 ∧
  ∀ r lo hi H', 0 ≤ lo → lo ≤ hi → hi < Bg.W (k + 1) → H' r = some (.tup [.int lo, .int hi]) → Drawn H p s c 201 H' → Q (.ref r) H'
def spCntR : Sp := fun vs H Q _ => ∃ (p : Addr) (d s c : Int) (t o te sc : Addr) (ones tens : List Str) (hun : Str) (scales : List Str) (lo hi : Int), vs = [.ref p, .ref t, .int (Bg.W (scales.length + 1)), .int lo, .int hi] ∧ RngAt H p d s c ∧ c < 2 ^ 28 ∧
  Tab H t ones tens hun scales o te sc ∧ scales.length ≤ 20 ∧ 0 ≤ lo ∧ lo ≤ hi ∧ hi < Bg.W (scales.length + 1) ∧ ∀ H', Drawn H p s c 201 H' → Q (.bl true) H'
def spPlR : Sp := fun vs H Q _ => ∃ (p : Addr) (d s c : Int) (t o te sc : Addr) (ones tens : List Str) (hun : Str) (scales : List Str) (lo hi : Int), vs = [.ref p, .ref t, .int lo, .int hi] ∧ RngAt H p d s c ∧ c < 2 ^ 28 ∧
  Tab H t ones tens hun scales o te sc ∧ scales.length ≤ 20 ∧ 0 ≤ lo ∧ lo ≤ hi ∧ hi < Bg.W (scales.length + 1) ∧ ∀ H', Drawn H p s c 2 H' → Q (.bl true) H'
section
variable {ones tens : List Str} {hun : Str} {scales : List Str} {ws : List (Str × Wo)}
/-- one place, one number -/
theorem ahead_inj (V : Voc ones tens hun scales ws) {lo hi a b : Int} (lo0 : 0 ≤ lo) (h1 : hi < Bg.W (scales.length + 1)) (a0 : lo ≤ a) (a1 : a ≤ hi) (b0 : lo ≤ b) (b1 : b ≤ hi) (e : ahead ones tens hun scales lo hi a = ahead ones tens hun scales lo hi b) : a = b := by
  by_cases ne : a = b
  · exact ne
  · exfalso
    cases c : ltL (nmL ones tens hun scales a) (nmL ones tens hun scales b) with
    | true =>
      have := ahead_lt ones tens hun scales (lo := lo) (hi := hi) a0 a1 c
      omega
    | false =>
      have d := less_or V (by omega) (by omega) (by omega) (by omega) ne c
      have := ahead_lt ones tens hun scales (lo := lo) (hi := hi) b0 b1 d
      omega
theorem name_of_lt (good : GoodRow (ones ++ (tens ++ hun :: scales))) {lo hi a b : Int} (a0 : 0 ≤ a) (a1 : a < Bg.W (scales.length + 1)) (b0 : 0 ≤ b) (b1 : b < Bg.W (scales.length + 1)) (h : ahead ones tens hun scales lo hi a < ahead ones tens hun scales lo hi b) :
    WkI.ltS (nameT ones tens hun scales a) (nameT ones tens hun scales b) = true := by
  have e := name_lt (nm_good (ones := ones) (tens := tens) (hun := hun) (scales := scales) good a) (nm_good good b) (nm_ne b0 b1) (nm_ne a0 a1)
  show decide _ = true
  refine e.trans ?_
  cases c : ltL (nmL ones tens hun scales a) (nmL ones tens hun scales b) with
  | true => rfl
  | false =>
    have := ahead_mono ones tens hun scales (lo := lo) (hi := hi) c
    omega
theorem rising_all : ∀ {y : Str} {ys : List Str}, PyProof.Rows.risingS y ys = true → ∀ z ∈ ys, WkI.ltS z y = false
  | y, x :: r, h, z, hz => by
    have h' : (!PySem.Spec.ltCps x.cps.toList y.cps.toList && PyProof.Rows.risingS x r) = true := h
    rw [Bool.and_eq_true, PyProof.Rows.ltCps_eq] at h'
    have xy : WkI.ltS x y = false := by
      have q := h'.1
      rw [Bool.not_eq_true'] at q
      exact q
    rcases List.mem_cons.mp hz with rfl | hz
    · exact xy
    · exact (WkI.swoS (fun x : Str => x)).tr y x z xy (rising_all h'.2 z hz)
theorem sortedS_cons {y : Str} {ys : List Str} (h : PyProof.Rows.sortedS (y :: ys) = true) : PyProof.Rows.sortedS ys = true ∧ ∀ z ∈ ys, WkI.ltS z y = false := by
  refine ⟨?_, rising_all h⟩
  cases ys with
  | nil => rfl
  | cons x r =>
    have h' : (!PySem.Spec.ltCps x.cps.toList y.cps.toList && PyProof.Rows.risingS x r) = true := h
    rw [Bool.and_eq_true] at h'
    exact h'.2
/-- ascending texts, sorted, are themselves -/
theorem sorted_same : ∀ {xs ys : List Str}, ys.Perm xs → PyProof.Rows.sortedS ys = true → xs.Pairwise (fun a b => WkI.ltS a b = true) → ys = xs := by
  intro xs
  induction xs with
  | nil =>
    intro ys p _ _
    exact List.Perm.eq_nil p
  | cons x xs ih =>
    intro ys p s h
    obtain ⟨h1, h2⟩ := List.pairwise_cons.mp h
    cases ys with
    | nil => exact absurd p.length_eq (by simp)
    | cons y ys =>
      have tl : PyProof.Rows.sortedS ys = true ∧ ∀ z ∈ ys, WkI.ltS z y = false := sortedS_cons s
      have e : y = x := by
        have m := p.mem_iff.mp (List.mem_cons_self (a := y) (l := ys))
        rcases List.mem_cons.mp m with e | m
        · exact e
        · have m2 := p.mem_iff.mpr (List.mem_cons_self (a := x) (l := xs))
          rcases List.mem_cons.mp m2 with e | m2
          · exact e.symm
          · have a := h1 y m
            rw [tl.2 x m2] at a
            cases a
      subst e
      rw [ih (List.Perm.cons_inv p) tl.1 h2]
end
section
variable {P : Program} {w : World} {K : PySem.W.Frag} {mg : Str → Option Value} {base : Heap}
end
end LB
set_option Elab.async false
set_option linter.all false
set_option maxRecDepth 100000
set_option maxHeartbeats 4000000
/-! Great ranges: the number at a place and its neighbours. -/
namespace LB
open PySem L2 Wk
open Bg (Bg Wo)
def oV : Option Int → V
  | none => .non
  | some i => .int i
def oD : Option Int → PyData
  | none => .none
  | some i => .int i
theorem oV_dp {K : PySem.W.Frag} {H : Hp} (o : Option Int) : Dp K H (oV o) (oD o) := by
  cases o with
  | none => exact .non
  | some i => exact .int i
theorem two_shaped (a b : Option Int) : SeqAt.shaped (.list [oD a, oD b]) = true := by
  cases a <;> cases b <;> rfl
theorem two_eqv (a b : Option Int) : PyData.eqv (.list [oD a, oD b]) (.list [oD a, oD b]) = true := by
  refine SeqAt.eqv_refl _ ?_
  cases a <;> cases b <;> rfl
/-- the neighbour's place has a number, if it is a place -/
def Nb (ones tens : List Str) (hun : Str) (scales : List Str) (lo hi p : Int) (o : Option Int) : Prop :=
  ((p < 0 ∨ p > hi - lo) ∧ o = none) ∨ (0 ≤ p ∧ p ≤ hi - lo ∧ ∃ r, o = some r ∧ lo ≤ r ∧ r ≤ hi ∧ ahead ones tens hun scales lo hi r = p)
theorem jl_mem : ∀ {L : List (List Nat)} {c : Nat}, c ∈ jl L → c = 32 ∨ ∃ x ∈ L, c ∈ x
  | [x], c, h => .inr ⟨x, List.mem_cons_self, h⟩
  | x :: y :: r, c, h => by
    rcases List.mem_append.mp (show c ∈ x ++ 32 :: jl (y :: r) from h) with h | h
    · exact .inr ⟨x, List.mem_cons_self, h⟩
    · rcases List.mem_cons.mp h with h | h
      · exact .inl h
      · rcases jl_mem h with h | ⟨z, hz, h⟩
        · exact .inl h
        · exact .inr ⟨z, List.mem_cons_of_mem _ hz, h⟩
theorem nameT_low {ones tens : List Str} {hun : Str} {scales : List Str} (good : GoodRow (ones ++ (tens ++ hun :: scales))) (ns : List Int) : ∀ x ∈ ns.map (nameT ones tens hun scales), ∀ c ∈ x.cps.toList, c < 128 := by
  intro x hx c hc
  obtain ⟨n, _, rfl⟩ := List.mem_map.mp hx
  unfold nameT at hc
  rw [glued_jl] at hc
  rcases jl_mem hc with rfl | ⟨y, hy, h⟩
  · decide
  · obtain ⟨z, hz, rfl⟩ := List.mem_map.mp hy
    have := (nm_good good n z hz).2.2 c h
    omega
theorem pair2 {α : Type} {R : α → α → Prop} {a b : α} (h : R a b) : [a, b].Pairwise R :=
  List.pairwise_cons.mpr ⟨fun x hx => by
    rcases List.mem_singleton.mp hx with rfl
    exact h, List.pairwise_singleton _ _⟩
section
variable {P : Program} {w : World} {K : PySem.W.Frag} {mg : Str → Option Value} {base : Heap}
end
end LB
set_option Elab.async false
set_option linter.all false
set_option maxRecDepth 100000
set_option maxHeartbeats 8000000
/-! The program's own: in_order, handed to list. -/
namespace LB
open PySem L2 Wk PyProof.Rows GenW
open Bg (Bg Wo)
/-- a list as a test -/
theorem pt_list {X : Cx} {e : Expr} {te : TE} (h : PE X e te) (he : ∀ whole, isTrue e X.env whole = (do let v ← whole; standAt e.pos; holding [v] (truthy v)) := by intro _; rfl) :
    PT X e (fun σ H Q => te σ H fun x H1 => ∃ (a : Addr) (zs : List V), x = .ref a ∧ SqL X.K H1 a zs ∧ Q (!zs.isEmpty) H1) := by
  refine ⟨fun pins s σ H Q I hw => ?_⟩
  refine isTrue_plain (thn (h.run pins s σ H _ I hw) fun v s1 ⟨x, H1, I1, r1, q1⟩ => ?_) (he _)
  obtain ⟨a, zs, rfl, hz, q⟩ := q1
  cases r1
  obtain ⟨its, rv, pl, hsz⟩ := I1.list hz
  have hl := line63
  have hlen := rv.length
  refine wpAny_truthy_list pl.isList (by simp only [List.size_toArray]; omega) ?_
  have e : (!its.toArray.isEmpty) = !zs.isEmpty := isEmpty_of rv
  rw [e]
  exact ⟨H1, I1.tok _, q⟩
def E00 : XK := fun _ _ _ => False
theorem pass00 {P : Program} {w : World} {X : Cx} : Passes (L2.CX P w) X E00 := fun _ _ _ _ _ _ _ ⟨_, _, _, _, _, _, _, _, _, _, _, _, z⟩ => z.elim
theorem noStop00 {K : PySem.W.Frag} : NoStop K E00 := fun _ _ _ h => h.elim
def spOrdG : SpG := fun vs H cont _ => ∃ (t o te sc : Addr) (ones tens : List Str) (hun : Str) (scales : List Str) (lo hi : Int), vs = [.ref t, .int lo, .int hi] ∧ Tab H t ones tens hun scales o te sc ∧ 0 ≤ lo ∧ lo ≤ hi ∧ hi < Bg.W (scales.length + 1) ∧ hi - lo ≤ 5000 ∧
  ∀ (H' : Hp) (ns : List Int), Same H H' → ns.Pairwise (fun x y => ltL (nmL ones tens hun scales x) (nmL ones tens hun scales y) = true) → (∀ x, x ∈ ns ↔ lo ≤ x ∧ x ≤ hi) → (ns.length : Int) = hi - lo + 1 → cont (ns.map V.int) H'
theorem pow_leads {n : Nat} : ∀ (ds : List Bg), ds.length ≤ 1000 → (∀ d ∈ ds, Bg.far d < n) → (ds.map fun d => 1001 ^ Bg.far d).sum < 1001 ^ n := by
  intro ds hl hd
  have z : ∀ ds : List Bg, (∀ d ∈ ds, Bg.far d < n) → (ds.map fun d => 1001 ^ Bg.far d).sum ≤ ds.length * 1001 ^ (n - 1) := by
    intro ds
    induction ds with
    | nil => intro _; simp
    | cons d ds ih =>
      intro h
      have a := ih fun x hx => h x (List.mem_cons_of_mem _ hx)
      have b := h d List.mem_cons_self
      have c : 1001 ^ Bg.far d ≤ 1001 ^ (n - 1) := Nat.pow_le_pow_right (by decide) (by omega)
      rw [List.map_cons, List.sum_cons, List.length_cons, Nat.succ_mul]
      omega
  cases ds with
  | nil => exact Nat.pow_pos (by decide)
  | cons d ds =>
    have n0 : 0 < n := by
      have := hd d List.mem_cons_self
      omega
    have a := z (d :: ds) hd
    have b : 1001 ^ n = 1001 ^ (n - 1) * 1001 := by
      rw [← Nat.pow_succ]
      congr 1
      omega
    have p : 0 < 1001 ^ (n - 1) := Nat.pow_pos (by decide)
    have c : (d :: ds).length * 1001 ^ (n - 1) ≤ 1000 * 1001 ^ (n - 1) := Nat.mul_le_mul_right _ hl
    omega
theorem len_flat {α : Type} {f : α → List Int} : ∀ {l : List α}, (∀ e ∈ l, 1 ≤ (f e).length) → l.length ≤ (l.map f).flatten.length
  | [], _ => Nat.le_refl _
  | e :: l, h => by
    have a := len_flat fun x hx => h x (List.mem_cons_of_mem _ hx)
    have b := h e List.mem_cons_self
    rw [List.map_cons, List.flatten_cons, List.length_append, List.length_cons]
    omega
section
variable {P : Program} {w : World} {K : PySem.W.Frag} {mg : Str → Option Value} {base : Heap}
theorem scOrdG : GScope ["table", "low", "high", "words", "waiting", "beginning"] ["table", "low", "high"] (defScope sInOrder) := ⟨rfl, rfl, rfl, by decide +kernel, rfl, by decide +kernel, by decide +kernel⟩
theorem ok_ordG {f fR fV fS fE fO fL : Addr} {fd dR dV dS dE dO dL : FuncData} (F : Fun K "in_order" "in_order" sInOrder f fd) (R : Def1 P w K mg base "check_range" 4 fR dR ["table", "low", "high"] spCR0)
    (DV : Def1 P w K mg base "vocabulary" 2 fV dV ["table"] spVocab) (DS : Def1 P w K mg base "start" 2 fS dS ["table"] (spStart K)) (DO : Def1 P w K mg base "own_number" 1 fO dO ["beginning"] (spOwn K))
    (DE : Def1 P w K mg base "ends_within" 2 fE dE ["beginning", "low", "high"] (spEnds K)) (DL : Def1 P w K mg base "_leading_into" 4 fL dL ["beginning", "words", "low", "high"] (spLeadF K)) :
    GFn P w K mg base 5 f fd ["table", "low", "high"] spOrdG := by
  obtain ⟨oc, od, kV, doc, pm, an, cdv, ct, osl, rfl, lk, hcd⟩ := F.ex
  refine gfn_of (k := 4) lk hcd scOrdG (fun vs H Q E h => ?_) (fun A outer s H vs Q E pn hr h => ?_)
  · obtain ⟨t, o, te, sc, ones, tens, hun, scales, lo, hi, rfl, _⟩ := h
    rfl
  · obtain ⟨t, o, te, sc, ones, tens, hun, scales, lo, hi, rfl, TB, lo0, lh, h1, few, kN⟩ := h
    have hr2 : Room 2 _ := hr.mono (by decide)
    have hr1 : Room 1 _ := hr.mono (by decide)
    refine ⟨_, gss_cons (gs_ps (ps_expr (pe_call R.ok hr (by rfl) R.g R.k R.b .nil pass0 (pa_cons (pv 0) (pa_cons (pv 1) (pa_cons (pv 2) pa_nil))))))
      (gss_cons (gs_ps (ps_set (i := 3) scOrdG.nd rfl (.inl rfl) (pe_call DV.ok hr2 (by rfl) DV.g DV.k DV.b .nil pass0 (pa_cons (pv 0) pa_nil))))
      (gss_cons (gs_ps (ps_set (i := 4) scOrdG.nd rfl (.inl rfl) (pe_lst (pa_cons (pe_call DS.ok hr2 (by rfl) DS.g DS.k DS.b .nil pass0 (pa_cons (pv 0) pa_nil)) pa_nil))))
      (gss_one (gs_while owns_gcx (pt_list (pv 4))
        (gss_cons (gs_ps (ps_set (i := 5) scOrdG.nd rfl (.inl rfl) (pe_bm0 PySem.F.plainAttrs_list PySem.F.slot_list_pop PySem.F.type_list_pop mt_pop (pv 4))))
        (gss_cons (gs_if (pt_val (pe_call DE.ok hr2 (by rfl) DE.g DE.k DE.b .nil pass0 (pa_cons (pv 5) (pa_cons (pv 1) (pa_cons (pv 2) pa_nil))))) (gss_one (gs_yield (pe_call DO.ok hr1 (by rfl) DO.g DO.k DO.b .nil pass0 (pa_cons (pv 5) pa_nil)))) gss_nil)
        (gss_one (gs_ps (ps_expr (pe_bm PySem.F.plainAttrs_list PySem.F.slot_list_extend PySem.F.type_list_extend mt_extend (pv 4)
          (pa_cons (pe_call DL.ok hr (by rfl) DL.g DL.k DL.b .nil pass0 (pa_cons (pv 5) (pa_cons (pv 3) (pa_cons (pv 1) (pa_cons (pv 2) pa_nil))))) pa_nil))))))))))), ?_⟩
    have l1 := TB.tb.l1
    have l2 := TB.tb.l2
    have l3 := TB.tb.l3
    have big : 1000000 ≤ sizeLine := by decide
    refine ⟨_, rfl, _, rfl, _, rfl, t, o, te, sc, ones, tens, hun, scales, lo, hi, rfl, TB, lo0, lh, h1, fun H1 s1 => ?_⟩
    have TT := TB.same s1
    refine ⟨_, rfl, t, o, te, sc, ones, tens, hun, scales, rfl, TT.tb.at_, by omega, by omega, by omega, TT.tb.nd, fun l vz H2 nl s2 hv _ hperm hasc => ?_⟩
    refine ⟨_, rfl, t, o, te, sc, ones, tens, hun, scales, rfl, (TT.same s2).tb.at_, by omega, fun p H3 np s3 hp => ⟨by show 1 ≤ sizeLine; decide, fun D nD => ?_⟩⟩
    have lv : vz.length ≤ 1000 := by
      have := hperm.length_eq
      rw [List.length_map, voc_len] at this
      omega
    have Vc : Voc ones tens hun scales (vz.map (·.2)) := ⟨hperm, hasc, l1, l2, TB.tb.nd⟩
    have wok : ∀ z ∈ vz, Bg.WOk z.2.2 := fun z hz => Bg.all_ok (Vc.word (List.mem_map.mpr ⟨z, hz, rfl⟩)).2
    generalize hws : vz.map (·.2) = ws at Vc
    obtain ⟨w1, w2, w3⟩ := walk_is Vc lo0 lh h1
    obtain ⟨total, htot⟩ : ∃ l, l = ordB lo hi ws (Bg.start scales.length) := ⟨_, rfl⟩
    rw [← htot] at w1 w2 w3
    have tl : total.length ≤ 5001 := by omega
    have s3' := s3.trans (same_new (x := .lst [.ref p]) nD)
    have sH : Same H H2 := s1.trans s2
    have nD2 : H2 D = none := s3.free nD
    have whole : Bg.cf (Bg.fb lo hi) (Bg.start scales.length) = hi - lo + 1 := Bg.start_all lo0 lh h1
    have oLen : ∀ {b : Bg}, Bg.Ok b → b.m ≤ scales.length + 1 → 0 < Bg.cf (Bg.fb lo hi) b → 1 ≤ (ordB lo hi ws b).length := fun {b} ok bm pos => by
      have := ord_len Vc lh (Bg.far b + 1) ok bm (Nat.lt_succ_self _)
      have this : ((ordB lo hi ws b).length : Int) = Bg.cf (Bg.fb lo hi) b := this
      omega
    refine ⟨fun m ys σ G => ∃ (st : List (Addr × Bg)) (x : Option V) (done : List Int), m = (st.map fun d => 1001 ^ Bg.far d.2).sum ∧ σ = [some (.ref t), some (.int lo), some (.int hi), some (.ref l), some (.ref D), x] ∧ ys = done.map V.int ∧ Same H2 G ∧ G D = some (.lst (st.map fun d => V.ref d.1)) ∧
      (∀ e ∈ st, SqT K G e.1 (BgV e.2) ∧ Bg.Ok e.2 ∧ e.2.m ≤ scales.length + 1 ∧ 0 < Bg.cf (Bg.fb lo hi) e.2) ∧ done ++ (st.reverse.map fun e => ordB lo hi ws e.2).flatten = total, ⟨_, [(p, Bg.start scales.length)], none, [], rfl, rfl, rfl, s3', upd_same, fun e he => ?_, ?_⟩, ?_⟩
    · rw [List.mem_singleton.mp he]
      exact ⟨(same_new nD).tp hp, Bg.start_ok _, Nat.le_refl _, by rw [whole]; omega⟩
    · rw [htot]
      simp
    rintro m ys σ G ⟨st, x0, done, rfl, rfl, rfl, s4, hW, hst, eq⟩
    refine ⟨_, rfl, D, _, rfl, SqL.of hW, ?_⟩
    rcases List.eq_nil_or_concat st with rfl | ⟨st0, ⟨pb, b⟩, rfl⟩
    · refine iteF ?_
      have e : done = total := by
        rw [← eq]
        simp
      rw [e]
      exact kN G total (sH.trans s4) w1 w2 w3
    · have hW : G D = some (.lst ((st0.map fun d => V.ref d.1) ++ [.ref pb])) := by
        rw [hW, List.concat_eq_append, List.map_append]
        rfl
      rw [List.concat_eq_append] at hst eq ⊢
      have ne : (!((st0 ++ [(pb, b)]).map fun d => V.ref d.1).isEmpty) = true := by cases st0 <;> rfl
      rw [ne]
      refine iteT ?_
      obtain ⟨hb, ok, bm, pos⟩ := hst (pb, b) (List.mem_append_right _ List.mem_cons_self)
      have hb : SqT K G pb (BgV b) := hb
      have eq : done ++ (ordB lo hi ws b ++ (st0.reverse.map fun e => ordB lo hi ws e.2).flatten) = total := by
        rw [← eq, List.reverse_append]
        rfl
      rw [ord_un Vc ok] at eq
      have sl : st0.length ≤ 5001 := by
        have a := congrArg List.length eq
        rw [List.length_append, List.length_append] at a
        have c := len_flat (f := fun e : Addr × Bg => ordB lo hi ws e.2) (l := st0.reverse) fun e he => by
          obtain ⟨_, q1, q2, q3⟩ := hst e (List.mem_append_left _ (List.mem_reverse.mp he))
          exact oLen q1 q2 q3
        rw [List.length_reverse] at c
        omega
      refine ⟨fun ys' σ' G' => ∃ (st : List (Addr × Bg)) (x : Option V) (done : List Int), (st.map fun d => 1001 ^ Bg.far d.2).sum < ((st0 ++ [(pb, b)]).map fun d => 1001 ^ Bg.far d.2).sum ∧ σ' = [some (.ref t), some (.int lo), some (.int hi), some (.ref l), some (.ref D), x] ∧ ys' = done.map V.int ∧ Same H2 G' ∧ G' D = some (.lst (st.map fun d => V.ref d.1)) ∧
        (∀ e ∈ st, SqT K G' e.1 (BgV e.2) ∧ Bg.Ok e.2 ∧ e.2.m ≤ scales.length + 1 ∧ 0 < Bg.cf (Bg.fb lo hi) e.2) ∧ done ++ (st.reverse.map fun e => ordB lo hi ws e.2).flatten = total, ?_, ?_⟩
      · rintro ys' σ' G' ⟨st, x, done, f1, f2⟩
        exact ⟨_, f1, st, x, done, rfl, f2⟩
      -- beginning = waiting.pop()
      refine ⟨_, rfl, .inl ⟨rfl, _, SqL.of hW⟩, D, _, .ref pb, rfl, rfl, hW, ?_, ?_⟩
      · rw [List.length_append, List.getElem?_append_right (by show (st0.map fun d => V.ref d.1).length ≤ (st0.map fun d => V.ref d.1).length + 1 - 1; omega)]
        show [V.ref pb][(st0.map fun d => V.ref d.1).length + 1 - 1 - (st0.map fun d => V.ref d.1).length]? = _
        rw [show (st0.map fun d => V.ref d.1).length + 1 - 1 - (st0.map fun d => V.ref d.1).length = 0 by omega]
        rfl
      rw [List.dropLast_concat]
      have s5 : Same H2 (upd G D (.lst (st0.map fun d => V.ref d.1))) := fun q o' e => by
        rw [upd_ne (ne_of_none e nD2)]
        exact s4 _ _ e
      have hb5 := hb.grow (zs := st0.map fun d => V.ref d.1) hW
      refine ⟨_, rfl, _, rfl, _, rfl, pb, b, lo, hi, rfl, hb5, _, rfl, ?_⟩
      cases he : endsB lo hi b with
      | true =>
        have eq : (done ++ [b.t + b.g]) ++ (((leads lo hi ws b).map fun e => ordB lo hi ws e.2).flatten ++ (st0.reverse.map fun e => ordB lo hi ws e.2).flatten) = total := by
          rw [← eq]
          unfold ownI
          rw [if_pos he]
          simp
        have dl : done.length ≤ 5001 := by
          have a := congrArg List.length eq
          rw [List.length_append, List.length_append] at a
          omega
        refine iteT ⟨by rw [List.length_map]; omega, _, rfl, pb, b, rfl, hb5, ?_⟩
        have ey : done.map V.int ++ [V.int (b.t + b.g)] = (done ++ [b.t + b.g]).map V.int := by rw [List.map_append]; rfl
        refine ⟨_, rfl, .inl ⟨rfl, _, SqL.of upd_same⟩, _, rfl, _, rfl, _, rfl, _, rfl, pb, b, l, vz, lo, hi, rfl, hb5, ok, hv.same s5, lv, wok, fun q ds G2 nq s6 hq dl hds heq => ?_⟩
        rw [hws] at heq
        have hD2 : G2 D = some (.lst (st0.map fun d => V.ref d.1)) := s6 _ _ upd_same
        refine ⟨D, q, _, _, rfl, rfl, hD2, hq, ?_, ?_⟩
        · rw [List.length_map, List.length_map]
          omega
        · refine ⟨st0 ++ ds, some (.ref pb), done ++ [b.t + b.g], ?_, ?_, ey, fun q' o' e => ?_, ?_, ?_, ?_⟩
          · rw [List.map_append, List.map_append, List.sum_append, List.sum_append]
            have z := pow_leads (n := Bg.far b) (ds.map (·.2)) (by rw [List.length_map]; exact dl) (fun d hd => by
              obtain ⟨x, hx, rfl⟩ := List.mem_map.mp hd
              exact (hds x hx).2.far)
            rw [List.map_map] at z
            have z : (ds.map fun d => 1001 ^ Bg.far d.2).sum < 1001 ^ Bg.far b := z
            show _ < _ + (1001 ^ Bg.far b + 0)
            omega
          · rfl
          · rw [upd_ne (ne_of_none e nD2)]
            exact s6 _ _ (s5 _ _ e)
          · rw [upd_same, List.map_append]
          · intro e he
            rcases List.mem_append.mp he with he | he
            · obtain ⟨a1, a2⟩ := hst e (List.mem_append_left _ he)
              exact ⟨(s6.tp (a1.grow hW)).grow hD2, a2⟩
            · obtain ⟨a1, a2⟩ := hds e he
              exact ⟨a1.grow hD2, a2.ok, Nat.le_trans a2.m bm, a2.pos⟩
          · rw [List.reverse_append, List.map_append, List.flatten_append]
            have e1 : (ds.reverse.map fun e => ordB lo hi ws e.2) = ((leads lo hi ws b).map fun e => ordB lo hi ws e.2) := by
              have e2 : ds.reverse.map (·.2) = (leads lo hi ws b).map (·.2) := by
                rw [List.map_reverse, heq, List.reverse_reverse]
                rfl
              have e3 := congrArg (List.map (ordB lo hi ws)) e2
              rw [List.map_map, List.map_map] at e3
              exact e3
            rw [e1]
            exact eq
      | false =>
        have eq : done ++ (((leads lo hi ws b).map fun e => ordB lo hi ws e.2).flatten ++ (st0.reverse.map fun e => ordB lo hi ws e.2).flatten) = total := by
          rw [← eq]
          unfold ownI
          rw [if_neg (by rw [he]; exact Bool.false_ne_true)]
          simp
        refine iteF ?_
        refine ⟨_, rfl, .inl ⟨rfl, _, SqL.of upd_same⟩, _, rfl, _, rfl, _, rfl, _, rfl, pb, b, l, vz, lo, hi, rfl, hb5, ok, hv.same s5, lv, wok, fun q ds G2 nq s6 hq dl hds heq => ?_⟩
        rw [hws] at heq
        have hD2 : G2 D = some (.lst (st0.map fun d => V.ref d.1)) := s6 _ _ upd_same
        refine ⟨D, q, _, _, rfl, rfl, hD2, hq, ?_, ?_⟩
        · rw [List.length_map, List.length_map]
          omega
        · refine ⟨st0 ++ ds, some (.ref pb), done, ?_, ?_, rfl, fun q' o' e => ?_, ?_, ?_, ?_⟩
          · rw [List.map_append, List.map_append, List.sum_append, List.sum_append]
            have z := pow_leads (n := Bg.far b) (ds.map (·.2)) (by rw [List.length_map]; exact dl) (fun d hd => by
              obtain ⟨x, hx, rfl⟩ := List.mem_map.mp hd
              exact (hds x hx).2.far)
            rw [List.map_map] at z
            have z : (ds.map fun d => 1001 ^ Bg.far d.2).sum < 1001 ^ Bg.far b := z
            show _ < _ + (1001 ^ Bg.far b + 0)
            omega
          · rfl
          · rw [upd_ne (ne_of_none e nD2)]
            exact s6 _ _ (s5 _ _ e)
          · rw [upd_same, List.map_append]
          · intro e he
            rcases List.mem_append.mp he with he | he
            · obtain ⟨a1, a2⟩ := hst e (List.mem_append_left _ he)
              exact ⟨(s6.tp (a1.grow hW)).grow hD2, a2⟩
            · obtain ⟨a1, a2⟩ := hds e he
              exact ⟨a1.grow hD2, a2.ok, Nat.le_trans a2.m bm, a2.pos⟩
          · rw [List.reverse_append, List.map_append, List.flatten_append]
            have e1 : (ds.reverse.map fun e => ordB lo hi ws e.2) = ((leads lo hi ws b).map fun e => ordB lo hi ws e.2) := by
              have e2 : ds.reverse.map (·.2) = (leads lo hi ws b).map (·.2) := by
                rw [List.map_reverse, heq, List.reverse_reverse]
                rfl
              have e3 := congrArg (List.map (ordB lo hi ws)) e2
              rw [List.map_map, List.map_map] at e3
              exact e3
            rw [e1]
            exact eq
end
end LB
set_option Elab.async false
set_option linter.all false
set_option maxRecDepth 100000
set_option maxHeartbeats 4000000
/-! The program's own on valid arguments: number_at. -/
namespace LB
open PySem L2 Wk
open Bg (Bg Wo)
section
variable {P : Program} {w : World} {K : PySem.W.Frag} {mg : Str → Option Value} {base : Heap}
theorem scNumAt0 : FnScope ["table", "spot", "below", "bound"] ["table", "spot", "below"] (defScope sNumAt) := ⟨rfl, rfl, rfl, by decide +kernel, rfl, by decide +kernel, by decide +kernel⟩
theorem ok_numAt0 {f fB fP : Addr} {fd dB dP : FuncData} (F : FunD K "number_at" "number_at" (defArgs sNumAt) (defBody sNumAt) (defScope sNumAt) [.non] [] f fd)
    (B : Def1 P w K mg base "checked_below" 4 fB dB ["table", "below"] spBelow0) (DP : Def1 P w K mg base "number_within" 4 fP dP ["table", "place", "low", "high"] spNumW) : FnOk P w K mg base CX0 5 f fd ["table", "spot", "below"] spNumAt0 := by
  refine F.ok0 scNumAt0 (fun vs H Q E h => ?_) (fun cdv A outer s H vs Q E hr h => ?_)
  · obtain ⟨t, o, te, sc, ones, tens, hun, scales, n, most, rfl, _⟩ := h
    rfl
  · obtain ⟨t, o, te, sc, ones, tens, hun, scales, n, most, rfl, TB, hm, n0, n1, k⟩ := h
    obtain ⟨b1, b2⟩ := bnd_0 (Bg.W_pos (scales.length + 1)) hm
    refine ⟨_, pss_cons (ps_set (i := 3) scNumAt0.nd rfl (.inl rfl) (pe_call B.ok hr (by rfl) B.g B.k B.b .nil pass0 (pa_cons (pv 0) (pa_cons (pv 2) pa_nil))))
      (pss_cons (ps_if (PW.pt (pw_or (pt_cmpR op_lt (pv 1) pe_int (nomark _)) (pw_or1 (pt_cmpR op_ge (pv 1) (pv 3) (nomark _))))) pss_never pss_nil)
      (pss_one (ps_ret (pe_call DP.ok hr (by rfl) DP.g DP.k DP.b .nil pass0 (pa_cons (pv 0) (pa_cons (pv 1) (pa_cons pe_int (pa_cons (pe_op op_sub (pv 3) pe_int) pa_nil)))))))), ?_⟩
    refine ⟨_, rfl, _, rfl, t, o, te, sc, ones, tens, hun, scales, most, rfl, TB, hm, fun H1 s1 => ?_⟩
    generalize bnd (Bg.W (scales.length + 1)) most = bound at k b1 b2 n1
    refine ⟨_, rfl, _, _, rfl, rfl, _, rfl, ite2 (fun c1 => ?_) (fun c1 => ?_)⟩
    · have := of_decide_eq_true c1
      omega
    · refine ⟨_, rfl, _, rfl, _, _, rfl, rfl, _, rfl, ite2 (fun c2 => ?_) (fun c2 => ?_)⟩
      · have := of_decide_eq_true c2
        omega
      · refine ⟨_, rfl, _, rfl, _, rfl, _, _, rfl, rfl, t, o, te, sc, ones, tens, hun, scales, n, 0, bound - 1, rfl, TB.tb.same s1, by omega, by omega, by omega, n0, by omega, fun ws r H' s2 p a hN => ?_⟩
        obtain ⟨r0, r1, e⟩ := number_is (TB.voc p a) (Int.le_refl 0) (by omega) (by omega) hN
        exact k r _ (s1.trans s2) r0 (by omega) e
end
end LB
set_option Elab.async false
set_option linter.all false
set_option maxRecDepth 100000
set_option maxHeartbeats 8000000
/-! Two tables with the same order: the same places and ranges. -/
namespace LB
open PySem L2 Wk
open Bg (Bg Wo)
theorem ints_layB : ∀ l : List Int, PyData.canLayAll0 (l.map PyData.int) = true ∧ PyData.depthAll (l.map PyData.int) ≤ 1
  | [] => ⟨rfl, by decide⟩
  | x :: l => by
    obtain ⟨a, b⟩ := ints_layB l
    refine ⟨?_, ?_⟩
    · rw [List.map_cons, PyData.canLayAll0, a, Bool.and_true, PyData.canLay0]
    · rw [List.map_cons, PyData.depthAll, PyData.depth]
      omega
theorem ints_shapedB (l : List Int) : SeqAt.shaped (.list (l.map PyData.int)) = true := by
  obtain ⟨a, b⟩ := ints_layB l
  unfold SeqAt.shaped
  simp only [PyData.canLay0, a, PyData.depth]
  simp
  omega
theorem ints_eqvB (l : List Int) : PyData.eqv (.list (l.map PyData.int)) (.list (l.map PyData.int)) = true := by
  refine SeqAt.eqv_refl _ ?_
  rw [PyData.canLay0]
  exact (ints_layB l).1
theorem ints_dpB {K : PySem.W.Frag} {H : Hp} : ∀ l : List Int, DpAll K H (l.map V.int) (l.map PyData.int)
  | [] => .nil
  | x :: l => .cons (.int x) (ints_dpB l)
theorem Tab.keepP {p : Addr} {H G : Hp} {t o te sc : Addr} {d s c : Int} {ones tens : List Str} {hun : Str} {scales : List Str} (T : Tab H t ones tens hun scales o te sc) (R : RngAtD H p d s c) (k : KeepP p H G) : Tab G t ones tens hun scales o te sc :=
  Tab.of (T.tb.at_.keepP R k) T.tb.l1 T.tb.l2 T.tb.l3 T.good
section
variable {ones tens : List Str} {hun : Str} {scales : List Str} {ws : List (Str × Wo)} {ones2 tens2 : List Str} {hun2 : Str} {scales2 : List Str} {ws2 : List (Str × Wo)}
theorem ahead_alike (V : Voc ones tens hun scales ws) (V2 : Voc ones2 tens2 hun2 scales2 ws2) (len : scales.length = scales2.length) (h : ∀ b ∈ bgs scales.length, numsOf b ws = numsOf b ws2) {lo hi n : Int} (lo0 : 0 ≤ lo) (h1 : hi < Bg.W (scales.length + 1)) (n0 : 0 ≤ n) (n1 : n < Bg.W (scales.length + 1)) :
    ahead ones tens hun scales lo hi n = ahead ones2 tens2 hun2 scales2 lo hi n := by
  unfold ahead
  refine Bg.sumR_congr _ fun i hi' => ?_
  rw [names_alike V V2 len h (by omega) (by omega) n0 n1]
theorem pw_alike (V : Voc ones tens hun scales ws) (V2 : Voc ones2 tens2 hun2 scales2 ws2) (len : scales.length = scales2.length) (h : ∀ b ∈ bgs scales.length, numsOf b ws = numsOf b ws2) {ns : List Int} (hn : ∀ x ∈ ns, 0 ≤ x ∧ x < Bg.W (scales.length + 1))
    (pw : ns.Pairwise fun x y => ltL (nmL ones2 tens2 hun2 scales2 x) (nmL ones2 tens2 hun2 scales2 y) = true) : ns.Pairwise fun x y => ltL (nmL ones tens hun scales x) (nmL ones tens hun scales y) = true :=
  pw.imp_of_mem fun {x y} hx hy e => by
    rw [names_alike V V2 len h (hn x hx).1 (hn x hx).2 (hn y hy).1 (hn y hy).2]
    exact e
end
def spAlikeR : Sp := fun vs H Q _ => ∃ (p : Addr) (d s c : Int) (t o te sc : Addr) (ones tens : List Str) (hun : Str) (scales : List Str) (t2 o2 te2 sc2 : Addr) (ones2 tens2 : List Str) (hun2 : Str) (scales2 : List Str) (ws ws2 : List (Str × Wo)), vs = [.ref p, .ref t, .ref t2] ∧ RngAtD H p d s c ∧ c < 2 ^ 28 ∧
  Tab H t ones tens hun scales o te sc ∧ Tab H t2 ones2 tens2 hun2 scales2 o2 te2 sc2 ∧ scales.length ≤ 20 ∧ scales.length = scales2.length ∧ Voc ones tens hun scales ws ∧ Voc ones2 tens2 hun2 scales2 ws2 ∧ (∀ b ∈ bgs scales.length, numsOf b ws = numsOf b ws2) ∧
  ∀ (d' c' : Int) (H' : Hp), RngAtD H' p d' s c' → c' ≤ c + 200 → KeepP p H H' → Q (.bl true) H'
section
variable {P : Program} {w : World} {K : PySem.W.Frag} {mg : Str → Option Value} {base : Heap}
theorem scAlikeR : FnScope ["pool", "one", "two", "top", "turn", "value", "spot", "low"] ["pool", "one", "two"] (defScope sAlikeRight) := ⟨rfl, rfl, rfl, by decide +kernel, rfl, by decide +kernel, by decide +kernel⟩
theorem ok_alikeR {f fD fP fV fPl fN fI : Addr} {fd dD dP dV dPl dN dI : FuncData} {dp dn : Value} (F : Fun K "_law_alike_right" "_law_alike_right" sAlikeRight f fd) (D : Def1 P w K mg base "_law_draw" 1 fD dD ["pool", "many"] spDrawD) (Pw : Def1 P w K mg base "_law_power" 1 fP dP ["many"] spPower)
    (Va : Def1 P w K mg base "_law_value" 2 fV dV ["pool", "book"] spValueD) (Pl : Def1 P w K mg base "place" 5 fPl dPl ["table", "number", "below"] spPlace0) (vP : Vals [V.non] [dp]) (bP : Binds K dPl ["table", "number", "below"] [dp])
    (NA : Def1 P w K mg base "number_at" 5 fN dN ["table", "spot", "below"] spNumAt0) (vN : Vals [V.non] [dn]) (bN : Binds K dN ["table", "spot", "below"] [dn])
    (IO : GFn P w K mg base 5 fI dI ["table", "low", "high"] spOrdG) (iG : mg "in_order" = some (.ref fI)) (iK : PySem.W.keepIn K (.ref fI) = true) (iB : Binds K dI ["table", "low", "high"] [])
    (mL : mg "len" = none) (mR : mg "range" = none) (mX : mg "max" = none) (mLi : mg "list" = none) : FnOk P w K mg base CX0 9 f fd ["pool", "one", "two"] spAlikeR := by
  refine F.ok scAlikeR (fun vs H Q E h => ?_) (fun cdv A outer s H vs Q E hr h => ?_)
  · obtain ⟨p, d, s, c, t, o, te, sc, ones, tens, hun, scales, t2, o2, te2, sc2, ones2, tens2, hun2, scales2, ws, ws2, rfl, _⟩ := h
    rfl
  · obtain ⟨p, d0, s0, c0, t, o, te, sc, ones, tens, hun, scales, t2, o2, te2, sc2, ones2, tens2, hun2, scales2, ws, ws2, rfl, B0, c28, T1, T2, n20, len, Vc, V2, al, kk⟩ := h
    have hr1 : Room 1 _ := hr.mono (by decide)
    have hr2 : Room 2 _ := hr.mono (by decide)
    have hr5 : Room 5 _ := hr.mono (by decide)
    refine ⟨_, pss_mid (ps_set (i := 3) scAlikeR.nd rfl (.inl rfl) (pe_call Pw.ok hr1 (by rfl) Pw.g Pw.k Pw.b .nil pass0 (pa_cons (pe_op op_add (pe_callB call_len_seq (by rfl) mL PySem.boot_len (pa_cons (pe_ix ix_tup (pv 1) pe_int (fun _ _ => rfl)) pa_nil)) pe_int) pa_nil))) (pss_cons (ps_for PassesOwn.never rfl (pi_range1 rfl mR (pa_cons pe_int pa_nil)) (pg_name (i := 4) scAlikeR.nd rfl (.inl rfl)) (pss_mid (ps_par (i := 5) (j := 6) (by rfl) scAlikeR.nd rfl rfl (by decide) rfl rfl (pa_cons (pe_call Va.ok hr2 (by rfl) Va.g Va.k Va.b .nil pass0 (pa_cons (pv 0) (pa_cons (pv 1) pa_nil))) (pa_cons (pe_call D.ok hr1 (by rfl) D.g D.k D.b .nil pass0 (pa_cons (pv 0) (pa_cons (pv 3) pa_nil))) pa_nil)) (by rfl)) (pss_cons (ps_if (PW.pt (pw_or (pt_cmpR op_ne (pe_call Pl.ok hr5 (by rfl) Pl.g Pl.k bP vP pass0 (pa_cons (pv 1) (pa_cons (pv 5) pa_nil))) (pe_call Pl.ok hr5 (by rfl) Pl.g Pl.k bP vP pass0 (pa_cons (pv 2) (pa_cons (pv 5) pa_nil))) (nomark _)) (pw_or1 (pt_cmpR op_ne (pe_call NA.ok hr5 (by rfl) NA.g NA.k bN vN pass0 (pa_cons (pv 1) (pa_cons (pv 6) pa_nil))) (pe_call NA.ok hr5 (by rfl) NA.g NA.k bN vN pass0 (pa_cons (pv 2) (pa_cons (pv 6) pa_nil))) (nomark _))))) (pss_one (ps_ret pe_bl)) pss_nil) (pss_mid (ps_set (i := 7) scAlikeR.nd rfl (.inl rfl) (pe_callB (call_max2 rfl) (by rfl) mX (by decide +kernel) (pa_cons pe_int (pa_cons (pe_op op_sub (pv 5) (pe_call D.ok hr1 (by rfl) D.g D.k D.b .nil pass0 (pa_cons (pv 0) (pa_cons pe_int pa_nil)))) pa_nil)))) (pss_one (ps_if (pt_cmpR (op_neD hr.units) (pe_listG (pgen_call IO hr5 (by rfl) iG iK iB .nil (pa_cons (pv 1) (pa_cons (pv 7) (pa_cons (pv 5) pa_nil)))) pass00 noStop00 hr (by rfl) mLi (by decide +kernel)) (pe_listG (pgen_call IO hr5 (by rfl) iG iK iB .nil (pa_cons (pv 2) (pa_cons (pv 7) (pa_cons (pv 5) pa_nil)))) pass00 noStop00 hr (by rfl) mLi (by decide +kernel)) (nomark _)) (pss_one (ps_ret pe_bl)) pss_nil)))))) (pss_one (ps_ret pe_bl))), ?_⟩
    have big : 10000 ≤ sizeLine := by decide
    have small : ∀ {n : Nat}, n < 2 ^ 10 → n < 2 ^ 1000 := fun h => Nat.lt_of_lt_of_le h (Nat.pow_le_pow_right (by decide) (by decide))
    have mid : ∀ {n : Nat}, n < 2 ^ 400 → n < 2 ^ 1000 := fun h => Nat.lt_of_lt_of_le h (Nat.pow_le_pow_right (by decide) (by decide))
    have L1 : (((scales.map V.str).length : Nat) : Int) + 1 = ((scales.length + 1 : Nat) : Int) := by rw [List.length_map]; omega
    have Wp := Bg.W_pos (scales.length + 1)
    have Wb := W_big (scales.length + 1) (by omega)
    have Wn : (Bg.W (scales.length + 1)).natAbs < 2 ^ 1000 := mid (by omega)
    refine ⟨fun τ G => τ = [some (.ref p), some (.ref t), some (.ref t2), some (.int (Bg.W (scales.length + 1))), none, none, none, none] ∧ G = H, ?_, ?_⟩
    · exact ⟨_, rfl, t, _, _, _, rfl, rfl, SqT.of T1.tb.at_.tup, rfl, sc, _, rfl, .inl (SqL.of T1.tb.at_.ls), _, _, rfl, rfl, scales.length + 1, congrArg (fun z => [V.int z]) L1, by omega, rfl, rfl⟩
    rintro τ G0 ⟨rfl, rfl⟩
    refine ⟨(4 : Int), rfl, by decide, by decide, ?_⟩
    refine for_range (lo := 0) (n := (4 : Int).toNat) (fun j τ G => ∃ (y4 y5 y6 y7 : Option V) (d c : Int), τ = [some (.ref p), some (.ref t), some (.ref t2), some (.int (Bg.W (scales.length + 1))), y4, y5, y6, y7] ∧ RngAtD G p d s0 c ∧ c ≤ c0 + 30 * (j : Int) ∧ KeepP p G0 G)
      ⟨none, none, none, none, d0, c0, rfl, B0, by omega, KeepP.of (Same.refl _)⟩ ?_ ?_
    · rintro j τ G hj ⟨y4, y5, y6, y7, d, c, rfl, B, e, KG⟩
      have j4 : j < 4 := hj
      -- value, spot
      refine ⟨fun τ G2 => ∃ (value spot d c : Int), τ = [some (.ref p), some (.ref t), some (.ref t2), some (.int (Bg.W (scales.length + 1))), some (.int (0 + (j : Int))), some (.int value), some (.int spot), y7] ∧ 0 ≤ value ∧ value < Bg.W (scales.length + 1) ∧ 0 ≤ spot ∧ spot < Bg.W (scales.length + 1) ∧ RngAtD G2 p d s0 c ∧ c ≤ c0 + 30 * (j : Int) + 21 ∧ KeepP p G0 G2, ?_, ?_⟩
      · refine ⟨_, rfl, _, rfl, p, t, d, s0, c, o, te, sc, ones, tens, hun, scales, rfl, B, by omega, (T1.keepP B0 KG).tb.at_, n20, fun v d1 c1 G1 v0 v1 B1 e1 K1 => ?_⟩
        refine ⟨_, rfl, _, rfl, p, d1, s0, c1, _, rfl, B1, Wp, Wn, by omega, fun sp d2 c2 G2 s0' s1' e2 B2 K2 => ?_⟩
        exact ⟨_, _, rfl, v, sp, d2, c2, rfl, v0, v1, s0', s1', B2, by omega, (KG.trans K1).trans K2⟩
      rintro τ G2 ⟨v, sp, d2, c2, rfl, v0, v1, sp0, sp1, B2, e2, K2⟩
      have Ta := T1.keepP B0 K2
      have Tb := T2.keepP B0 K2
      refine ⟨_, rfl, _, rfl, t, o, te, sc, ones, tens, hun, scales, v, .non, rfl, Ta, .inl rfl, v0, v1, fun G3 s3 => ?_⟩
      refine ⟨_, rfl, _, rfl, t2, o2, te2, sc2, ones2, tens2, hun2, scales2, v, .non, rfl, Tb.same s3, .inl rfl, v0, by show v < Bg.W (scales2.length + 1); rw [← len]; exact v1, fun G4 s4 => ?_⟩
      have pe : ahead ones tens hun scales 0 (bnd (Bg.W (scales.length + 1)) .non - 1) v = ahead ones2 tens2 hun2 scales2 0 (bnd (Bg.W (scales2.length + 1)) .non - 1) v := by
        rw [← len]
        exact ahead_alike Vc V2 len al (Int.le_refl _) (by show Bg.W (scales.length + 1) - 1 < _; omega) v0 v1
      refine ⟨rfl, _, rfl, iteNS (congrArg V.int pe) ?_⟩
      have s24 := s3.trans s4
      refine ⟨_, rfl, _, rfl, t, o, te, sc, ones, tens, hun, scales, sp, .non, rfl, Ta.same s24, .inl rfl, sp0, sp1, fun r1 G5 s5 r10 r11 er1 => ?_⟩
      refine ⟨_, rfl, _, rfl, t2, o2, te2, sc2, ones2, tens2, hun2, scales2, sp, .non, rfl, (Tb.same s24).same s5, .inl rfl, sp0, by show sp < Bg.W (scales2.length + 1); rw [← len]; exact sp1, fun r2 G6 s6 r20 r21 er2 => ?_⟩
      have r12 : r1 = r2 := by
        have b2 : r2 < Bg.W (scales.length + 1) := by
          rw [len]
          exact r21
        have b1 : r1 < Bg.W (scales.length + 1) := r11
        have e3 : ahead ones tens hun scales 0 (Bg.W (scales.length + 1) - 1) r2 = sp := by
          rw [ahead_alike Vc V2 len al (Int.le_refl _) (by omega) r20 b2, len]
          exact er2
        have e1' : ahead ones tens hun scales 0 (Bg.W (scales.length + 1) - 1) r1 = sp := er1
        exact ahead_inj Vc (Int.le_refl _) (by omega) r10 (by omega) r20 (by omega) (e1'.trans e3.symm)
      refine ⟨rfl, _, rfl, iteNS (congrArg V.int r12) ?_⟩
      have s26 := (s24.trans s5).trans s6
      have B6 := B2.same s26
      have K6 := K2.trans (KeepP.of s26)
      -- low
      refine ⟨fun τ G7 => ∃ (low d c : Int), τ = [some (.ref p), some (.ref t), some (.ref t2), some (.int (Bg.W (scales.length + 1))), some (.int (0 + (j : Int))), some (.int v), some (.int sp), some (.int low)] ∧ 0 ≤ low ∧ low ≤ v ∧ v - low ≤ 40 ∧ RngAtD G7 p d s0 c ∧ c ≤ c0 + 30 * (j : Int) + 22 ∧ KeepP p G0 G7, ?_, ?_⟩
      · refine ⟨_, rfl, _, rfl, p, d2, s0, c2, 40, rfl, B6, by decide, small (by decide), by omega, fun r d3 c3 G7 q0 q1 e3 B3 K3 => ⟨_, _, rfl, rfl, _, _, rfl, ?_⟩⟩
        refine ⟨_, d3, c3, rfl, ?_, ?_, ?_, B3, by omega, K6.trans K3⟩
        · split <;> omega
        · split <;> omega
        · split <;> omega
      rintro τ G7 ⟨low, d3, c3, rfl, lw0, lw1, lw2, B7, e7, K7⟩
      have Tc := T1.keepP B0 K7
      have Td := T2.keepP B0 K7
      refine ⟨_, rfl, _, rfl, _, rfl, t, o, te, sc, ones, tens, hun, scales, low, v, rfl, Tc, lw0, lw1, v1, by omega, fun H1 ns s1 pw mem _ u nu => ?_⟩
      have s8 := s1.trans (same_new (x := .lst (ns.map V.int)) nu)
      have hu : upd H1 u (.lst (ns.map V.int)) u = some (.lst (ns.map V.int)) := upd_same
      generalize upd H1 u (.lst (ns.map V.int)) = G8 at s8 hu
      refine ⟨_, rfl, _, rfl, _, rfl, t2, o2, te2, sc2, ones2, tens2, hun2, scales2, low, v, rfl, Td.same s8, lw0, lw1, by rw [← len]; exact v1, by omega, fun H2 ns2 s2 pw2 mem2 _ u2 nu2 => ?_⟩
      have nn : ns2 = ns := pw_one (pw_alike Vc V2 len al (fun x hx => by have := (mem2 x).mp hx; omega) pw2) pw fun x => (mem2 x).trans (mem x).symm
      subst nn
      have s9 := s2.trans (same_new (x := .lst (ns2.map V.int)) nu2)
      refine ⟨_, _, .lst (SqL.of (s9 _ _ hu)) (ints_dpB _), .lst (SqL.of upd_same) (ints_dpB _), ints_shapedB _, ints_shapedB _, ?_⟩
      rw [ints_eqvB]
      refine ⟨_, rfl, iteF ?_⟩
      exact ⟨_, _, _, _, d3, c3, rfl, (B7.same s8).same s9, by omega, (K7.trans (KeepP.of s8)).trans (KeepP.of s9)⟩
    · rintro τ G ⟨y4, y5, y6, y7, d, c, rfl, B, e, KG⟩
      exact kk d c G B (by have : ((4 : Int).toNat : Int) = 4 := rfl; omega) KG
end
end LB
set_option Elab.async false
set_option linter.all false
set_option maxRecDepth 100000
set_option maxHeartbeats 8000000
/-! A hidden table against places and neighbours. -/
namespace LB
open PySem L2 Wk
open Bg (Bg Wo)
theorem TabD.keepP {p : Addr} {H G : Hp} {t o te sc : Addr} {d s c : Int} {ones tens : List Str} {hun : Str} {scales : List Str} (T : TabD H t ones tens hun scales o te sc) (R : RngAtD H p d s c) (k : KeepP p H G) : TabD G t ones tens hun scales o te sc :=
  ⟨T.at_.keepP R k, T.l1, T.l2, T.l3, T.tm⟩
theorem TabD.butA {a CH dx u : Addr} {q : Int} {H G : Hp} {t o te sc : Addr} {ones tens : List Str} {hun : Str} {scales : List Str} (T : TabD H t ones tens hun scales o te sc) (h : HidAt H a CH dx u q) (k : KeepP a H G) : TabD G t ones tens hun scales o te sc := by
  have ne : ∀ {r : Addr} {x : HO}, H r = some x → (∀ l, x ≠ .ins CH dx l) → r ≠ a := fun {r x} e n z => by
    rw [z, h] at e
    exact n _ (Option.some.inj e).symm
  exact ⟨⟨k _ _ T.at_.tup (ne T.at_.tup fun _ z => by cases z), k _ _ T.at_.lo (ne T.at_.lo fun _ z => by cases z), k _ _ T.at_.lt (ne T.at_.lt fun _ z => by cases z), k _ _ T.at_.ls (ne T.at_.ls fun _ z => by cases z)⟩, T.l1, T.l2, T.l3, T.tm⟩
/-- what stands while numbers are compared -/
structure HidLp (G : Hp) (p a CH dx t o te sc u oc ec cc : Addr) (d s c q : Int) (ones tens : List Str) (hun : Str) (scales : List Str) : Prop where
  tb : TabD G t ones tens hun scales o te sc
  hi : HidAt G a CH dx u q
  tu : TabD G u ones tens hun scales oc ec cc
  rg : RngAtD G p d s c
section
variable {G G' : Hp} {p a CH dx t o te sc u oc ec cc : Addr} {d s c q d' c' : Int} {ones tens : List Str} {hun : Str} {scales : List Str}
theorem HidLp.ne (L : HidLp G p a CH dx t o te sc u oc ec cc d s c q ones tens hun scales) : a ≠ p := fun z => by
  have e := L.hi
  rw [z] at e
  rw [HidAt, L.rg.at_] at e
  cases e
theorem HidLp.same (L : HidLp G p a CH dx t o te sc u oc ec cc d s c q ones tens hun scales) (k : Same G G') : HidLp G' p a CH dx t o te sc u oc ec cc d s c q ones tens hun scales :=
  ⟨L.tb.same k, k _ _ L.hi, L.tu.same k, L.rg.same k⟩
theorem HidLp.drew (L : HidLp G p a CH dx t o te sc u oc ec cc d s c q ones tens hun scales) (k : KeepP p G G') (R : RngAtD G' p d' s c') : HidLp G' p a CH dx t o te sc u oc ec cc d' s c' q ones tens hun scales :=
  ⟨L.tb.keepP L.rg k, k _ _ L.hi L.ne, L.tu.keepP L.rg k, R⟩
theorem HidLp.told (L : HidLp G p a CH dx t o te sc u oc ec cc d s c q ones tens hun scales) (k : KeepP a G G') (h : HidAt G' a CH dx u (q + 1)) : HidLp G' p a CH dx t o te sc u oc ec cc d s c (q + 1) ones tens hun scales :=
  ⟨L.tb.butA L.hi k, h, L.tu.butA L.hi k, ⟨k _ _ L.rg.at_ L.ne.symm, L.rg.d0, L.rg.s0, L.rg.s1, L.rg.c0⟩⟩
end

section
variable {ones tens : List Str} {hun : Str} {scales : List Str} {ws : List (Str × Wo)}
theorem place_ltB (V : Voc ones tens hun scales ws) {a b : Int} (a0 : 0 ≤ a) (b0 : 0 ≤ b) (a1 : a < Bg.W (scales.length + 1)) (b1 : b < Bg.W (scales.length + 1)) :
    decide (ahead ones tens hun scales 0 (Bg.W (scales.length + 1) - 1) a < ahead ones tens hun scales 0 (Bg.W (scales.length + 1) - 1) b) = ltL (nmL ones tens hun scales a) (nmL ones tens hun scales b) := by
  by_cases e : a = b
  · subst e
    rw [ltL_irrefl]
    exact decide_eq_false (by omega)
  · exact place_lt V a0 b0 a1 b1 (Int.le_refl _) e
theorem near_lt (V : Voc ones tens hun scales ws) {lo hi a b : Int} (lo0 : 0 ≤ lo) (h1 : hi < Bg.W (scales.length + 1)) (a0 : lo ≤ a) (a1 : a ≤ hi) (b0 : lo ≤ b) (b1 : b ≤ hi) (h : ahead ones tens hun scales lo hi a < ahead ones tens hun scales lo hi b) :
    ltL (nmL ones tens hun scales a) (nmL ones tens hun scales b) = true := by
  cases c : ltL (nmL ones tens hun scales a) (nmL ones tens hun scales b) with
  | true => rfl
  | false =>
    by_cases e : a = b
    · rw [e] at h
      omega
    · have d := less_or V (by omega) (by omega) (by omega) (by omega) e c
      have := ahead_lt ones tens hun scales (lo := lo) (hi := hi) b0 b1 d
      omega
end
def spHidR : Sp := fun vs H Q _ => ∃ (p : Addr) (d s c : Int) (t o te sc : Addr) (ones tens : List Str) (hun : Str) (scales : List Str), vs = [.ref p, .ref t] ∧ RngAtD H p d s c ∧ c < 2 ^ 28 ∧
  Tab H t ones tens hun scales o te sc ∧ scales.length ≤ 20 ∧ ∀ (d' c' : Int) (H' : Hp), RngAtD H' p d' s c' → c' ≤ c + 200 → KeepP p H H' → Q (.bl true) H'
/-- a neighbour, or none -/
def NbP (ones tens : List Str) (hun : Str) (scales : List Str) (one : Int) (up : Bool) (v : V) : Prop :=
  v = .non ∨ ∃ r : Int, v = .int r ∧ 0 ≤ r ∧ r < Bg.W (scales.length + 1) ∧ (if up then ltL (nmL ones tens hun scales one) (nmL ones tens hun scales r) else ltL (nmL ones tens hun scales r) (nmL ones tens hun scales one)) = true
section
variable {P : Program} {w : World} {K : PySem.W.Frag} {mg : Str → Option Value} {base : Heap} {CH C0 C1 fI fC fQ pQ fS pS : Addr} {dI dC dQ dS : FuncData} {g : List Value → List Value → List Value}
theorem scHidR : FnScope ["pool", "book", "hidden_here", "turn", "one", "two", "low", "high", "early", "late"] ["pool", "book"] (defScope sHiddenRight) := ⟨rfl, rfl, rfl, by decide +kernel, rfl, by decide +kernel, by decide +kernel⟩
theorem ok_hidR {f fV fPl fB fA : Addr} {fd dV dPl dB dA : FuncData} {dp : Value} (F : Fun K "_law_hidden_right" "_law_hidden_right" sHiddenRight f fd) (M : HidM P w K mg base CH C0 C1 fI fC fQ pQ fS pS dI dC dQ dS g) (IX : FnOk P w K mg base (L2.CX P w) 4 fI dI ["self", "table"] (spHInitX CH C0))
    (Va : Def1 P w K mg base "_law_value" 2 fV dV ["pool", "book"] spValueD) (Pl : Def1 P w K mg base "place" 5 fPl dPl ["table", "number", "below"] spPlace0) (vP : Vals [V.non] [dp]) (bP : Binds K dPl ["table", "number", "below"] [dp])
    (Bf : Def1 P w K mg base "before" 6 fB dB ["table", "number", "low", "high"] (spNext0 false)) (Af : Def1 P w K mg base "after" 6 fA dA ["table", "number", "low", "high"] (spNext0 true))
    (mR : mg "range" = none) (mX : mg "max" = none) (mN : mg "min" = none) : FnOk P w K mg base CX0 9 f fd ["pool", "book"] spHidR := by
  refine F.ok scHidR (fun vs H Q E h => ?_) (fun cdv A outer s H vs Q E hr h => ?_)
  · obtain ⟨p, d, s, c, t, o, te, sc, ones, tens, hun, scales, rfl, _⟩ := h
    rfl
  · obtain ⟨p, d0, s0, c0, t, o, te, sc, ones, tens, hun, scales, rfl, B0, c28, T, n20, kk⟩ := h
    have hr2 : Room 2 _ := hr.mono (by decide)
    have hr5 : Room 5 _ := hr.mono (by decide)
    have hr6 : Room 6 _ := hr.mono (by decide)
    have hrB : Room 6 _ := hr.mono (by decide)
    refine ⟨_, pss_mid (ps_set (i := 2) scHidR.nd rfl (.inl rfl) (pe_makeAt M.made IX hr5 (by rfl) M.gH M.bI (fun σ => passAt takes0 σ) (pa_cons (pv 1) pa_nil))) (pss_cons (ps_for PassesOwn.never rfl (pi_range1 rfl mR (pa_cons pe_int pa_nil)) (pg_name (i := 3) scHidR.nd rfl (.inl rfl)) (pss_mid (ps_par (i := 4) (j := 5) (by rfl) scHidR.nd rfl rfl (by decide) rfl rfl (pa_cons (pe_call Va.ok hr2 (by rfl) Va.g Va.k Va.b .nil pass0 (pa_cons (pv 0) (pa_cons (pv 1) pa_nil))) (pa_cons (pe_call Va.ok hr2 (by rfl) Va.g Va.k Va.b .nil pass0 (pa_cons (pv 0) (pa_cons (pv 1) pa_nil))) pa_nil)) (by rfl)) (pss_cons (ps_if (pt_cmpR op_ne (pe_methAt (pv 2) M.hc.cls M.mC M.comes hr6 M.bC (fun σ => passAt takes0 σ) (pa_cons (pv 4) (pa_cons (pv 5) pa_nil))) (pe_cmpR op_lt (pe_call Pl.ok hr5 (by rfl) Pl.g Pl.k bP vP pass0 (pa_cons (pv 1) (pa_cons (pv 4) pa_nil))) (pe_call Pl.ok hr5 (by rfl) Pl.g Pl.k bP vP pass0 (pa_cons (pv 1) (pa_cons (pv 5) pa_nil))) (nomark _)) (nomark _)) (pss_one (ps_ret pe_bl)) pss_nil) (pss_mid (ps_par (i := 6) (j := 7) (by rfl) scHidR.nd rfl rfl (by decide) rfl rfl (pa_cons (pe_callB (call_min2 rfl) (by rfl) mN (by decide +kernel) (pa_cons (pv 4) (pa_cons (pv 5) pa_nil))) (pa_cons (pe_callB (call_max2 rfl) (by rfl) mX (by decide +kernel) (pa_cons (pv 4) (pa_cons (pv 5) pa_nil))) pa_nil)) (by rfl)) (pss_mid (ps_par (i := 8) (j := 9) (by rfl) scHidR.nd rfl rfl (by decide) rfl rfl (pa_cons (pe_call Bf.ok hrB (by rfl) Bf.g Bf.k Bf.b .nil pass0 (pa_cons (pv 1) (pa_cons (pv 4) (pa_cons (pv 6) (pa_cons (pv 7) pa_nil))))) (pa_cons (pe_call Af.ok hrB (by rfl) Af.g Af.k Af.b .nil pass0 (pa_cons (pv 1) (pa_cons (pv 4) (pa_cons (pv 6) (pa_cons (pv 7) pa_nil))))) pa_nil)) (by rfl)) (pss_mid (ps_if (PW.pt (pw_and (pt_cmpR op_notN (pv 8) pe_non (nomark _)) (pw_and1 (pt_not (pt_val (pe_methAt (pv 2) M.hc.cls M.mC M.comes hr6 M.bC (fun σ => passAt takes0 σ) (pa_cons (pv 8) (pa_cons (pv 4) pa_nil)))))))) (pss_one (ps_ret pe_bl)) pss_nil) (pss_one (ps_if (PW.pt (pw_and (pt_cmpR op_notN (pv 9) pe_non (nomark _)) (pw_and1 (pt_not (pt_val (pe_methAt (pv 2) M.hc.cls M.mC M.comes hr6 M.bC (fun σ => passAt takes0 σ) (pa_cons (pv 4) (pa_cons (pv 9) pa_nil)))))))) (pss_one (ps_ret pe_bl)) pss_nil)))))))) (pss_one (ps_ret pe_bl))), ?_⟩
    have big : 10000 ≤ sizeLine := by decide
    have ff : fault ones tens hun scales = none := fault_good T.tb.l1 T.tb.l2 T.good
    obtain ⟨ws, Vc⟩ : ∃ ws, Voc ones tens hun scales ws := T.has_voc
    have l1 := T.tb.l1
    have l2 := T.tb.l2
    have TD : TabD H t ones tens hun scales o te sc := ⟨T.tb.at_, by omega, by omega, by omega, fun x hx => (T.good.ok x hx).tame⟩
    have tabOf : ∀ {G : Hp}, TabD G t ones tens hun scales o te sc → Tab G t ones tens hun scales o te sc := fun TG => Tab.of TG.at_ l1 l2 T.tb.l3 T.good
    refine ⟨fun τ G => ∃ (a dx u oc ec cc : Addr), τ = [some (.ref p), some (.ref t), some (.ref a), none, none, none, none, none, none, none] ∧ H a = none ∧ HidLp G p a CH dx t o te sc u oc ec cc d0 s0 c0 0 ones tens hun scales ∧ KeepP p H G, ?_, ?_⟩
    · refine ⟨_, rfl, ?_⟩
      intro b dx nb nd ne
      have sM : Same H (upd (upd H dx (.own b)) b (.ins CH dx [])) := fun r u e => (upd_ne (ne_of_none e nb)).trans ((upd_ne (ne_of_none e nd)).trans e)
      refine ⟨b, dx, t, o, te, sc, ones, tens, hun, scales, rfl, upd_same, TD.same sM, fun _ tc oc ec cc G3 m0 m1 m2 m3 TC hh keep => ⟨rfl, ?_⟩, fun v hv => absurd (ff.symm.trans hv) (by intro z; cases z)⟩
      have sG : Same H G3 := fun r u e => keep _ _ (sM _ _ e) (ne_of_none e nb)
      exact ⟨b, dx, tc, oc, ec, cc, rfl, nb, ⟨TD.same sG, hh, ⟨TC, by omega, by omega, by omega, fun x hx => (T.good.ok x hx).tame⟩, B0.same sG⟩, KeepP.of sG⟩
    rintro τ G0 ⟨a, dx, u, oc, ec, cc, rfl, na, L0, K0⟩
    refine ⟨(4 : Int), rfl, by decide, by decide, ?_⟩
    refine for_range (lo := 0) (n := (4 : Int).toNat) (fun j τ G => ∃ (y3 y4 y5 y6 y7 y8 y9 : Option V) (d c q : Int), τ = [some (.ref p), some (.ref t), some (.ref a), y3, y4, y5, y6, y7, y8, y9] ∧ HidLp G p a CH dx t o te sc u oc ec cc d s0 c q ones tens hun scales ∧ c ≤ c0 + 50 * (j : Int) ∧ KeepP p H G)
      ⟨none, none, none, none, none, none, none, d0, c0, 0, rfl, L0, by omega, K0⟩ ?_ ?_
    · rintro j τ G hj ⟨y3, y4, y5, y6, y7, y8, y9, d, c, q, rfl, L, e, KG⟩
      have j4 : j < 4 := hj
      -- one, two
      refine ⟨fun τ G2 => ∃ (x y d c : Int), τ = [some (.ref p), some (.ref t), some (.ref a), some (.int (0 + (j : Int))), some (.int x), some (.int y), y6, y7, y8, y9] ∧ 0 ≤ x ∧ x < Bg.W (scales.length + 1) ∧ 0 ≤ y ∧ y < Bg.W (scales.length + 1) ∧ HidLp G2 p a CH dx t o te sc u oc ec cc d s0 c q ones tens hun scales ∧ c ≤ c0 + 50 * (j : Int) + 40 ∧ KeepP p H G2, ?_, ?_⟩
      · refine ⟨_, rfl, _, rfl, p, t, d, s0, c, o, te, sc, ones, tens, hun, scales, rfl, L.rg, by omega, L.tb.at_, n20, fun v d1 c1 G1 v0 v1 B1 e1 K1 => ?_⟩
        have L1 := L.drew K1 B1
        refine ⟨_, rfl, _, rfl, p, t, d1, s0, c1, o, te, sc, ones, tens, hun, scales, rfl, B1, by omega, L1.tb.at_, n20, fun v' d2 c2 G2 v0' v1' B2 e2 K2 => ?_⟩
        exact ⟨_, _, rfl, v, v', d2, c2, rfl, v0, v1, v0', v1', L1.drew K2 B2, by omega, (KG.trans K1).trans K2⟩
      rintro τ G2 ⟨x, y, d2, c2, rfl, x0, x1, y0, y1, L2', e2, K2⟩
      -- comes before
      refine ⟨_, rfl, a, dx, _, rfl, L2'.hi, rfl, _, rfl, _, rfl, a, dx, u, oc, ec, cc, q, ones, tens, hun, scales, x, y, rfl, L2'.hi, L2'.tu, ff, fun n => absurd ⟨x0, x1⟩ n, fun _ _ n => absurd ⟨y0, y1⟩ n, fun _ _ _ _ G3 h3 k3 => ?_⟩
      have L3' := L2'.told (fun r u e n => k3 r u e n) h3
      have K3 : KeepP p H G3 := fun r u e n => k3 _ _ (K2 r u e n) (ne_of_none e na)
      refine ⟨_, rfl, _, rfl, t, o, te, sc, ones, tens, hun, scales, x, .non, rfl, tabOf L3'.tb, .inl rfl, x0, x1, fun G4 s4 => ?_⟩
      have L4 := L3'.same s4
      refine ⟨_, rfl, _, rfl, t, o, te, sc, ones, tens, hun, scales, y, .non, rfl, tabOf L4.tb, .inl rfl, y0, y1, fun G5 s5 => ⟨_, _, rfl, rfl, ?_⟩⟩
      have L5 := L4.same s5
      have K5 := (K3.trans (KeepP.of s4)).trans (KeepP.of s5)
      have pe : V.bl (ltW (nmD ones tens hun scales x) (nmD ones tens hun scales y)) = V.bl (decide (ahead ones tens hun scales 0 (bnd (Bg.W (scales.length + 1)) .non - 1) x < ahead ones tens hun scales 0 (bnd (Bg.W (scales.length + 1)) .non - 1) y)) := by
        rw [ltW_ltF]
        exact congrArg V.bl (place_ltB Vc x0 y0 x1 y1).symm
      refine ⟨rfl, _, rfl, iteNS pe ?_⟩
      -- low, high
      refine ⟨fun τ G6 => ∃ (lo hi : Int), τ = [some (.ref p), some (.ref t), some (.ref a), some (.int (0 + (j : Int))), some (.int x), some (.int y), some (.int lo), some (.int hi), y8, y9] ∧ 0 ≤ lo ∧ lo ≤ x ∧ x ≤ hi ∧ hi < Bg.W (scales.length + 1) ∧ G6 = G5, ?_, ?_⟩
      · refine ⟨_, rfl, _, rfl, _, _, rfl, _, rfl, _, rfl, _, _, rfl, ?_⟩
        refine ⟨_, _, rfl, _, _, rfl, ?_, ?_, ?_, ?_, rfl⟩
        · split <;> omega
        · split <;> omega
        · split <;> omega
        · split <;> omega
      rintro τ G6 ⟨lo, hi, rfl, lo0, lx, xh, h1, rfl⟩
      -- neighbours
      refine ⟨fun τ G7 => ∃ (v8 v9 : V), τ = [some (.ref p), some (.ref t), some (.ref a), some (.int (0 + (j : Int))), some (.int x), some (.int y), some (.int lo), some (.int hi), some v8, some v9] ∧ NbP ones tens hun scales x false v8 ∧ NbP ones tens hun scales x true v9 ∧ Same G6 G7, ?_, ?_⟩
      · refine ⟨_, rfl, _, rfl, _, rfl, _, rfl, t, o, te, sc, ones, tens, hun, scales, x, lo, hi, rfl, tabOf L5.tb, x0, x1, lo0, by omega, h1, fun z hz => ⟨fun _ G7 s7 => ?_, fun z0 z1 r G7 s7 r0 r1 er => ?_⟩⟩
        · refine ⟨_, rfl, _, rfl, _, rfl, _, rfl, t, o, te, sc, ones, tens, hun, scales, x, lo, hi, rfl, (tabOf L5.tb).same s7, x0, x1, lo0, by omega, h1, fun z' hz' => ⟨fun _ G8 s8 => ?_, fun z0' z1' r' G8 s8 r0' r1' er' => ?_⟩⟩
          · exact ⟨.non, _, rfl, .non, .non, rfl, .inl rfl, .inl rfl, s7.trans s8⟩
          · refine ⟨.non, _, rfl, .non, .int r', rfl, .inl rfl, .inr ⟨r', rfl, by omega, by omega, ?_⟩, s7.trans s8⟩
            rw [if_pos rfl] at hz' ⊢
            rw [if_pos ⟨lx, xh⟩] at hz'
            exact near_lt Vc lo0 h1 lx xh r0' r1' (by omega)
        · have nb8 : NbP ones tens hun scales x false (.int r) := .inr ⟨r, rfl, by omega, by omega, by
            rw [if_neg Bool.false_ne_true] at hz ⊢
            exact near_lt Vc lo0 h1 r0 r1 lx xh (by omega)⟩
          refine ⟨_, rfl, _, rfl, _, rfl, _, rfl, t, o, te, sc, ones, tens, hun, scales, x, lo, hi, rfl, (tabOf L5.tb).same s7, x0, x1, lo0, by omega, h1, fun z' hz' => ⟨fun _ G8 s8 => ?_, fun z0' z1' r' G8 s8 r0' r1' er' => ?_⟩⟩
          · exact ⟨.int r, _, rfl, .int r, .non, rfl, nb8, .inl rfl, s7.trans s8⟩
          · refine ⟨.int r, _, rfl, .int r, .int r', rfl, nb8, .inr ⟨r', rfl, by omega, by omega, ?_⟩, s7.trans s8⟩
            rw [if_pos rfl] at hz' ⊢
            rw [if_pos ⟨lx, xh⟩] at hz'
            exact near_lt Vc lo0 h1 lx xh r0' r1' (by omega)
      rintro τ G7 ⟨v8, v9, rfl, n8, n9, s7⟩
      have L7 := L5.same s7
      have K7 := K5.trans (KeepP.of s7)
      -- early
      refine ⟨fun τ G8 => ∃ (q : Int), τ = [some (.ref p), some (.ref t), some (.ref a), some (.int (0 + (j : Int))), some (.int x), some (.int y), some (.int lo), some (.int hi), some v8, some v9] ∧ HidLp G8 p a CH dx t o te sc u oc ec cc d2 s0 c2 q ones tens hun scales ∧ KeepP p H G8, ?_, ?_⟩
      · rcases n8 with rfl | ⟨r, rfl, r0, r1, hr'⟩
        · exact ⟨_, rfl, rfl, _, rfl, ite2 (fun z => absurd z (by decide)) (fun _ => ⟨_, rfl, L7, K7⟩)⟩
        · refine ⟨_, rfl, rfl, _, rfl, ite2 (fun _ => ?_) (fun z => absurd (by simp) z)⟩
          refine ⟨_, rfl, a, dx, _, rfl, L7.hi, rfl, _, rfl, _, rfl, a, dx, u, oc, ec, cc, _, ones, tens, hun, scales, r, x, rfl, L7.hi, L7.tu, ff, fun n => absurd ⟨r0, r1⟩ n, fun _ _ n => absurd ⟨x0, x1⟩ n, fun _ _ _ _ G8 h8 k8 => ?_⟩
          rw [if_neg Bool.false_ne_true] at hr'
          have e8 : ltW (nmD ones tens hun scales r) (nmD ones tens hun scales x) = true := (ltW_ltF _ _).trans hr'
          rw [e8]
          refine ⟨_, rfl, ite2 (fun z => by cases z) (fun _ => ?_)⟩
          exact ⟨_, rfl, L7.told (fun r u e n => k8 r u e n) h8, fun r u e n => k8 _ _ (K7 r u e n) (ne_of_none e na)⟩
      rintro τ G8 ⟨q8, rfl, L8, K8⟩
      rcases n9 with rfl | ⟨r, rfl, r0, r1, hr'⟩
      · exact ⟨_, rfl, rfl, _, rfl, ite2 (fun z => absurd z (by decide)) (fun _ => ⟨_, _, _, _, _, _, _, d2, c2, q8, rfl, L8, by omega, K8⟩)⟩
      · refine ⟨_, rfl, rfl, _, rfl, ite2 (fun _ => ?_) (fun z => absurd (by simp) z)⟩
        refine ⟨_, rfl, a, dx, _, rfl, L8.hi, rfl, _, rfl, _, rfl, a, dx, u, oc, ec, cc, _, ones, tens, hun, scales, x, r, rfl, L8.hi, L8.tu, ff, fun n => absurd ⟨x0, x1⟩ n, fun _ _ n => absurd ⟨r0, r1⟩ n, fun _ _ _ _ G9 h9 k9 => ?_⟩
        rw [if_pos rfl] at hr'
        have e9 : ltW (nmD ones tens hun scales x) (nmD ones tens hun scales r) = true := (ltW_ltF _ _).trans hr'
        rw [e9]
        refine ⟨_, rfl, ite2 (fun z => by cases z) (fun _ => ?_)⟩
        exact ⟨_, _, _, _, _, _, _, d2, c2, _, rfl, L8.told (fun r u e n => k9 r u e n) h9, by omega, fun r u e n => k9 _ _ (K8 r u e n) (ne_of_none e na)⟩
    · rintro τ G ⟨y3, y4, y5, y6, y7, y8, y9, d, c, q, rfl, L, e, KG⟩
      exact kk d c G L.rg (by have : ((4 : Int).toNat : Int) = 4 := rfl; omega) KG
end
end LB
set_option Elab.async false
set_option linter.all false
set_option maxRecDepth 100000
set_option maxHeartbeats 8000000
/-! Two tables: what find tells, comparisons, places. -/
namespace LB
open PySem L2 Wk
open Bg (Bg Wo)
/-- what is told, as data -/
def toD (W L : List Int) (h : Nat) : PyData := .list [.list (W.map PyData.int), .list (L.map PyData.int), .int (h : Int)]
theorem toD_shaped (W L : List Int) (h : Nat) : SeqAt.shaped (toD W L h) = true := by
  obtain ⟨a, b⟩ := ints_layB W
  obtain ⟨c, d⟩ := ints_layB L
  unfold SeqAt.shaped toD
  simp only [PyData.canLay0, PyData.canLayAll0, a, c, PyData.depth, PyData.depthAll]
  simp
  omega
theorem toD_eqv (W L W' L' : List Int) (h h' : Nat) : PyData.eqv (toD W L h) (toD W' L' h') = decide (W = W' ∧ L = L' ∧ h = h') := by
  unfold toD
  simp only [PyData.eqv, PyData.eqvAll, ints_eqv, Bool.and_true]
  by_cases h1 : W = W' <;> by_cases h2 : L = L' <;> by_cases h3 : h = h' <;> simp [h1, h2, h3]
  · omega
def spRt48 : Sp := fun vs H Q _ => ∃ (p : Addr) (d s c : Int) (t o te sc : Addr) (ones tens : List Str) (hun : Str) (scales : List Str) (t2 o2 te2 sc2 : Addr) (ones2 tens2 : List Str) (hun2 : Str) (scales2 : List Str), vs = [.ref p, .ref t, .ref t2] ∧ RngAtD H p d s c ∧ c < 2 ^ 27 ∧
  Tab H t ones tens hun scales o te sc ∧ Tab H t2 ones2 tens2 hun2 scales2 o2 te2 sc2 ∧ scales.length ≤ 20 ∧ scales.length = scales2.length ∧
  ∀ (d' c' : Int) (H' : Hp), RngAtD H' p d' s c' → c' ≤ c + 400 → KeepP p H H' → Q (.bl true) H'
section
variable {P : Program} {w : World} {K : PySem.W.Frag} {mg : Str → Option Value} {base : Heap}
theorem scRt48 : FnScope ["pool", "one", "two", "alike", "early", "late"] ["pool", "one", "two"] (defScope sRight) := ⟨rfl, rfl, rfl, by decide +kernel, rfl, by decide +kernel, by decide +kernel⟩
theorem ok_rt48 {f fS fT fH fA fPt fPl : Addr} {fd dS dT dH dA dPt dPl : FuncData} {dp : Value} (F : Fun K "_law_right" "_law_right" sRight f fd) (Sm : Def1 P w K mg base "same_order" 6 fS dS ["first", "second"] spSameT) (To : Def1 P w K mg base "_law_told" 9 fT dT ["book"] spToldB)
    (HR : Def1 P w K mg base "_law_hidden_right" 9 fH dH ["pool", "book"] spHidR) (AR : Def1 P w K mg base "_law_alike_right" 9 fA dA ["pool", "one", "two"] spAlikeR) (Pt : Def1 P w K mg base "parting_numbers" 5 fPt dPt ["first", "second"] spPartT)
    (Pl : Def1 P w K mg base "place" 5 fPl dPl ["table", "number", "below"] spPlace0) (vP : Vals [V.non] [dp]) (bP : Binds K dPl ["table", "number", "below"] [dp]) : FnOk P w K mg base CX0 10 f fd ["pool", "one", "two"] spRt48 := by
  refine F.ok scRt48 (fun vs H Q E h => ?_) (fun cdv A outer s H vs Q E hr h => ?_)
  · obtain ⟨p, d, s, c, t, o, te, sc, ones, tens, hun, scales, t2, o2, te2, sc2, ones2, tens2, hun2, scales2, rfl, _⟩ := h
    rfl
  · obtain ⟨p, d0, s0, c0, t, o, te, sc, ones, tens, hun, scales, t2, o2, te2, sc2, ones2, tens2, hun2, scales2, rfl, B0, c28, T1, T2, n20, len, kk⟩ := h
    have hr5 : Room 5 _ := hr.mono (by decide)
    have hr6 : Room 6 _ := hr.mono (by decide)
    have hr9 : Room 9 _ := hr
    refine ⟨_, pss_cons (ps_set (i := 3) scRt48.nd rfl (.inl rfl) (pe_call Sm.ok hr6 (by rfl) Sm.g Sm.k Sm.b .nil pass0 (pa_cons (pv 1) (pa_cons (pv 2) pa_nil)))) (pss_cons (ps_if (PW.pt (pw_or (pt_cmpR op_ne (pe_cmpR (op_eqD hr.units) (pe_call To.ok hr9 (by rfl) To.g To.k To.b .nil pass0 (pa_cons (pv 1) pa_nil)) (pe_call To.ok hr9 (by rfl) To.g To.k To.b .nil pass0 (pa_cons (pv 2) pa_nil)) (nomark _)) (pv 3) (nomark _)) (pw_or1 (pt_not (pt_val (pe_call HR.ok hr9 (by rfl) HR.g HR.k HR.b .nil pass0 (pa_cons (pv 0) (pa_cons (pv 2) pa_nil)))))))) (pss_one (ps_ret pe_bl)) pss_nil) (pss_cons (ps_if (pt_val (pv 3)) (pss_one (ps_ret (pe_call AR.ok hr9 (by rfl) AR.g AR.k AR.b .nil pass0 (pa_cons (pv 0) (pa_cons (pv 1) (pa_cons (pv 2) pa_nil)))))) pss_nil) (pss_cons (ps_asg (pe_call Pt.ok hr5 (by rfl) Pt.g Pt.k Pt.b .nil pass0 (pa_cons (pv 1) (pa_cons (pv 2) pa_nil))) (pg_tup (by rfl) (pgs_cons (pg_name (i := 4) scRt48.nd rfl (.inl rfl)) (pgs_cons (pg_name (i := 5) scRt48.nd rfl (.inl rfl)) pgs_nil)))) (pss_one (ps_ret (pe_and (pe_cmpR op_lt (pe_call Pl.ok hr5 (by rfl) Pl.g Pl.k bP vP pass0 (pa_cons (pv 1) (pa_cons (pv 4) pa_nil))) (pe_call Pl.ok hr5 (by rfl) Pl.g Pl.k bP vP pass0 (pa_cons (pv 1) (pa_cons (pv 5) pa_nil))) (nomark _)) (pe_one (pe_cmpR op_lt (pe_call Pl.ok hr5 (by rfl) Pl.g Pl.k bP vP pass0 (pa_cons (pv 2) (pa_cons (pv 5) pa_nil))) (pe_call Pl.ok hr5 (by rfl) Pl.g Pl.k bP vP pass0 (pa_cons (pv 2) (pa_cons (pv 4) pa_nil))) (nomark _))))))))), ?_⟩
    have big : 10000 ≤ sizeLine := by decide
    obtain ⟨ws, V1⟩ : ∃ ws, Voc ones tens hun scales ws := T1.has_voc
    obtain ⟨ws2, V2⟩ : ∃ ws, Voc ones2 tens2 hun2 scales2 ws := T2.has_voc
    refine ⟨_, rfl, _, rfl, t, o, te, sc, ones, tens, hun, scales, t2, o2, te2, sc2, ones2, tens2, hun2, scales2, ws, ws2, rfl, T1, T2, by omega, len, V1, V2, fun H1 s1 => ?_⟩
    obtain ⟨al, hal⟩ : ∃ al : Bool, al = decide (∀ b ∈ bgs scales.length, numsOf b ws = numsOf b ws2) := ⟨_, rfl⟩
    rw [← hal]
    -- told
    refine ⟨_, rfl, t, o, te, sc, ones, tens, hun, scales, rfl, T1.same s1, n20, fun M1 A1 N1 H2 s2 hM1 hA1 hN1 => ?_⟩
    refine ⟨_, rfl, t2, o2, te2, sc2, ones2, tens2, hun2, scales2, rfl, (T2.same s1).same s2, by omega, fun M2 A2 N2 H3 s3 hM2 hA2 hN2 => ?_⟩
    rw [out_posT V1] at hA1
    rw [out_posT V2] at hA2
    refine ⟨toD (wordsF ws) (plO ones tens hun scales) (hunsF ones tens hun scales), toD (wordsF ws2) (plO ones2 tens2 hun2 scales2) (hunsF ones2 tens2 hun2 scales2), .lst (SqL.of (s3 _ _ hM1)) (.cons (.lst (SqL.of (s3 _ _ hA1)) (ints_dpB _)) (.cons (.lst (SqL.of (s3 _ _ hN1)) (ints_dpB _)) (.cons (.int _) .nil))), .lst (SqL.of hM2) (.cons (.lst (SqL.of hA2) (ints_dpB _)) (.cons (.lst (SqL.of hN2) (ints_dpB _)) (.cons (.int _) .nil))), toD_shaped _ _ _, toD_shaped _ _ _, ?_⟩
    have pe : V.bl (PyData.eqv (toD (wordsF ws) (plO ones tens hun scales) (hunsF ones tens hun scales)) (toD (wordsF ws2) (plO ones2 tens2 hun2 scales2) (hunsF ones2 tens2 hun2 scales2))) = V.bl al := by
      rw [toD_eqv, hal]
      exact congrArg V.bl (decide_eq_decide.mpr (told_iff V1 V2 len))
    refine ⟨_, rfl, rfl, _, rfl, iteNS pe ?_⟩
    have s13 := (s1.trans s2).trans s3
    -- comparisons
    refine ⟨_, rfl, _, rfl, p, d0, s0, c0, t2, o2, te2, sc2, ones2, tens2, hun2, scales2, rfl, B0.same s13, by omega, T2.same s13, by omega, fun d1 c1 G1 B1 e1 K1 => ?_⟩
    have K01 := (KeepP.of (p := p) s13).trans K1
    have T1a := T1.keepP B0 K01
    have T2a := T2.keepP B0 K01
    refine ⟨_, rfl, ite2 (fun z => by cases z) (fun _ => ?_)⟩
    refine ⟨_, rfl, _, rfl, ite2 (fun c => ?_) (fun c => ?_)⟩
    · have hall := of_decide_eq_true (hal.symm.trans c)
      refine ⟨_, rfl, _, rfl, _, rfl, p, d1, s0, c1, t, o, te, sc, ones, tens, hun, scales, t2, o2, te2, sc2, ones2, tens2, hun2, scales2, ws, ws2, rfl, B1, by omega, T1a, T2a, n20, len, V1, V2, hall, fun d2 c2 G2 B2 e2 K2 => ?_⟩
      exact kk d2 c2 G2 B2 (by omega) (K01.trans K2)
    · have hno : ¬ ∀ b ∈ bgs scales.length, numsOf b ws = numsOf b ws2 := fun h => c (by rw [hal]; exact decide_eq_true h)
      refine ⟨_, rfl, _, rfl, t, o, te, sc, ones, tens, hun, scales, t2, o2, te2, sc2, ones2, tens2, hun2, scales2, ws, ws2, rfl, T1a, T2a, by omega, len, V1, V2, fun v G2 s2' tp => ?_⟩
      rcases tp with ⟨_, h⟩ | ⟨T, x, y, rfl, hT, _, ⟨x0, x1⟩, ⟨y0, y1⟩, ne, lt1, lt2⟩
      · exact absurd h hno
      have T1b := T1a.same s2'
      have T2b := T2a.same s2'
      have x2 : x < Bg.W (scales2.length + 1) := by rw [← len]; exact x1
      have y2 : y < Bg.W (scales2.length + 1) := by rw [← len]; exact y1
      refine ⟨T, _, rfl, SqT.of hT, rfl, _, _, rfl, _, _, rfl, rfl, ?_⟩
      refine ⟨_, rfl, _, rfl, t, o, te, sc, ones, tens, hun, scales, x, .non, rfl, T1b, .inl rfl, x0, x1, fun G3 s3' => ?_⟩
      refine ⟨_, rfl, _, rfl, t, o, te, sc, ones, tens, hun, scales, y, .non, rfl, T1b.same s3', .inl rfl, y0, y1, fun G4 s4' => ⟨_, _, rfl, rfl, ?_⟩⟩
      have p1 : decide (ahead ones tens hun scales 0 (bnd (Bg.W (scales.length + 1)) .non - 1) x < ahead ones tens hun scales 0 (bnd (Bg.W (scales.length + 1)) .non - 1) y) = true := (place_ltB V1 x0 y0 x1 y1).trans lt1
      have T2c := (T2b.same s3').same s4'
      refine ⟨_, rfl, ite2 (fun _ => ?_) (fun z => absurd p1 z)⟩
      refine ⟨_, rfl, _, rfl, t2, o2, te2, sc2, ones2, tens2, hun2, scales2, y, .non, rfl, T2c, .inl rfl, y0, y2, fun G5 s5' => ?_⟩
      refine ⟨_, rfl, _, rfl, t2, o2, te2, sc2, ones2, tens2, hun2, scales2, x, .non, rfl, T2c.same s5', .inl rfl, x0, x2, fun G6 s6' => ⟨_, _, rfl, rfl, ?_⟩⟩
      have p2 : decide (ahead ones2 tens2 hun2 scales2 0 (bnd (Bg.W (scales2.length + 1)) .non - 1) y < ahead ones2 tens2 hun2 scales2 0 (bnd (Bg.W (scales2.length + 1)) .non - 1) x) = true := (place_ltB V2 y0 x0 y2 x2).trans lt2
      show Q (.bl (decide (ahead ones2 tens2 hun2 scales2 0 (bnd (Bg.W (scales2.length + 1)) .non - 1) y < ahead ones2 tens2 hun2 scales2 0 (bnd (Bg.W (scales2.length + 1)) .non - 1) x))) G6
      rw [p2]
      have s26 := (((s2'.trans s3').trans s4').trans s5').trans s6'
      exact kk d1 c1 G6 (B1.same s26) (by omega) (K01.trans (KeepP.of s26))
end
end LB
set_option Elab.async false
set_option linter.all false
set_option maxRecDepth 100000
set_option maxHeartbeats 8000000
/-! Whole orders and places: the law. -/
namespace LB
open PySem L2 Wk
open Bg (Bg Wo)
theorem NewTab.tabQ {H H' : Hp} {t o te sc : Addr} {ones tens : List Str} {hun : Str} {scales : List Str} (N : NewTab H H' t o te sc ones tens hun scales) (l : scales.length ≤ 20) : Tab H' t ones tens hun scales o te sc :=
  ⟨⟨N.at_, N.l1, N.l2, by omega, N.good.nd⟩, N.good⟩
theorem pick48 {j : Nat} (hj : j < 2) : ∃ m : Int, atI [V.int 2, V.int 9] (0 + (j : Int)) = some (.int m) ∧ 0 < m ∧ m ≤ 9 := by
  rcases (show j = 0 ∨ j = 1 by omega) with rfl | rfl
  · exact ⟨2, rfl, by decide, by decide⟩
  · exact ⟨9, rfl, by decide, by decide⟩
def spLaw48 (K : PySem.W.Frag) : Sp := fun vs H Q _ => ∃ (a : Addr) (ns : List Int), vs = [.ref a] ∧ SqL K H a (ns.map V.int) ∧ ns.length ≤ 63 ∧ ∀ H', Q (.bl true) H'
section
variable {P : Program} {w : World} {K : PySem.W.Frag} {mg : Str → Option Value} {base : Heap}
theorem scLaw48 : FnScope ["script", "at", "pool", "turn", "one", "two"] ["script"] (defScope sLaw) := ⟨rfl, rfl, rfl, by decide +kernel, rfl, by decide +kernel, by decide +kernel⟩
theorem ok_law48 {f fP fD fB fN fR : Addr} {fd dP dD dB dN dR : FuncData} (F : Fun K "law" "law" sLaw f fd) (Po : Def1 P w K mg base "_law_pool" 1 fP dP ["script", "at"] (spPool K)) (D : Def1 P w K mg base "_law_draw" 1 fD dD ["pool", "many"] spDrawD)
    (Bk : Def1 P w K mg base "_law_book" 3 fB dB ["pool", "scales_here"] spBookN) (Ne : Def1 P w K mg base "_law_near" 2 fN dN ["pool", "book"] spNear) (R : Def1 P w K mg base "_law_right" 10 fR dR ["pool", "one", "two"] spRt48)
    (mL : mg "len" = none) (mR : mg "range" = none) (mX : mg "max" = none) (mN : mg "min" = none) : FnG P w K mg base CX0 11 f fd ["script"] (spLaw48 K) := by
  refine okG F scLaw48 (fun vs H Q E h => ?_) (fun cdv A outer s H vs Q E gd hr h => ?_)
  · obtain ⟨a, ns, rfl, _⟩ := h
    rfl
  · obtain ⟨a, ns, rfl, hS, hl, k⟩ := h
    have hr10 : Room 10 _ := hr
    have hr3 : Room 3 _ := hr.mono (by decide)
    have hr2 : Room 2 _ := hr.mono (by decide)
    have hr1 : Room 1 _ := hr.mono (by decide)
    refine ⟨_, pss_mid (ps_for PassesOwn.never rfl (pi_range1 rfl mR (pa_cons (pe_callB (call_max2 rfl) (by rfl) mX (by decide +kernel) (pa_cons pe_int (pa_cons (pe_callB (call_min2 rfl) (by rfl) mN (by decide +kernel) (pa_cons pe_int (pa_cons (pe_callB call_len_seq (by rfl) mL PySem.boot_len (pa_cons (pv 0) pa_nil)) pa_nil))) pa_nil))) pa_nil)) (pg_name (i := 1) scLaw48.nd rfl (.inl rfl)) (pss_cons (ps_set (i := 2) scLaw48.nd rfl (.inl rfl) (pe_call Po.ok hr1 (by rfl) Po.g Po.k Po.b .nil pass0 (pa_cons (pv 0) (pa_cons (pv 1) pa_nil)))) (pss_one (ps_for PassesOwn.never rfl (pi_range1 rfl mR (pa_cons pe_int pa_nil)) (pg_name (i := 3) scLaw48.nd rfl (.inl rfl)) (pss_cons (ps_set (i := 4) scLaw48.nd rfl (.inl rfl) (pe_call Bk.ok hr3 (by rfl) Bk.g Bk.k Bk.b .nil pass0 (pa_cons (pv 2) (pa_cons (pe_call D.ok hr1 (by rfl) D.g D.k D.b .nil pass0 (pa_cons (pv 2) (pa_cons (pe_ix ix_list (pe_lst (pa_cons pe_int (pa_cons pe_int pa_nil))) (pv 3) (fun _ _ => rfl)) pa_nil))) pa_nil)))) (pss_one (ps_for PassesOwn.never rfl (pi_list (pe_lst (pa_cons (pe_call Ne.ok hr2 (by rfl) Ne.g Ne.k Ne.b .nil pass0 (pa_cons (pv 2) (pa_cons (pv 4) pa_nil))) (pa_cons (pe_call Ne.ok hr2 (by rfl) Ne.g Ne.k Ne.b .nil pass0 (pa_cons (pv 2) (pa_cons (pv 4) pa_nil))) (pa_cons (pv 4) pa_nil))))) (pg_name (i := 5) scLaw48.nd rfl (.inl rfl)) (pss_one (ps_if (pt_not (pt_val (pe_call R.ok hr10 (by rfl) R.g R.k R.b .nil pass0 (pa_cons (pv 2) (pa_cons (pv 4) (pa_cons (pv 5) pa_nil)))))) (pss_one (ps_ret pe_bl)) pss_nil))))))))) (pss_one (ps_ret pe_bl)), ?_⟩
    have small : ∀ {n : Nat}, n < 2 ^ 10 → n < 2 ^ 1000 := fun h => Nat.lt_of_lt_of_le h (Nat.pow_le_pow_right (by decide) (by decide))
    have big : 3000 ≤ sizeLine := by decide
    refine ⟨fun τ G => ∃ x1 x2 x3 x4 x5 : Option V, τ = [some (.ref a), x1, x2, x3, x4, x5] ∧ Same H G, ?_, ?_⟩
    · have hm : ∃ m : Nat, (if (if (((ns.map V.int).length : Nat) : Int) < 4 then (((ns.map V.int).length : Nat) : Int) else 4) > 1 then (if (((ns.map V.int).length : Nat) : Int) < 4 then (((ns.map V.int).length : Nat) : Int) else 4) else 1) = (m : Int) ∧ m ≤ 4 := by
        refine ⟨(if (if (((ns.map V.int).length : Nat) : Int) < 4 then (((ns.map V.int).length : Nat) : Int) else 4) > 1 then (if (((ns.map V.int).length : Nat) : Int) < 4 then (((ns.map V.int).length : Nat) : Int) else 4) else 1).toNat, ?_, ?_⟩ <;> (repeat' split) <;> omega
      obtain ⟨m, em, m8⟩ := hm
      refine ⟨_, rfl, a, _, rfl, .inl hS, _, _, rfl, _, _, rfl, (m : Int), congrArg (fun z => [V.int z]) em, by omega, by omega, ?_⟩
      refine for_range (lo := 0) (n := ((m : Nat) : Int).toNat) (fun i σ G => ∃ x1 x2 x3 x4 x5 : Option V, σ = [some (.ref a), x1, x2, x3, x4, x5] ∧ Same H G) ⟨none, none, none, none, none, rfl, Same.refl H⟩ ?_ (fun σ G h => h)
      rintro i σ G hi ⟨x1, x2, x3, x4, x5, rfl, sG⟩
      refine ⟨_, rfl, _, rfl, a, ns, i, by rw [Int.zero_add]; rfl, sG.seq hS, by omega, fun p d s G1 np R1 s1 => ?_⟩
      refine ⟨2, rfl, by decide, by decide, for_range (lo := 0) (n := (2 : Int).toNat) (fun j σ G2 => ∃ (x3 x4 x5 : Option V) (d c : Int), σ = [some (.ref a), some (.int (0 + (i : Int))), some (.ref p), x3, x4, x5] ∧ RngAtD G2 p d s c ∧ c ≤ 4000 * (j : Int) ∧ KeepP p G1 G2)
        ⟨x3, x4, x5, d, 0, rfl, R1, by omega, fun q o e _ => e⟩ ?_ ?_⟩
      · rintro j σ G2 hj ⟨x3, x4, x5, d, c, rfl, R2, e2, K2⟩
        have j3 : j < 2 := hj
        obtain ⟨m, hm, m0, m9⟩ := pick48 j3
        refine ⟨_, rfl, _, rfl, by show 2 ≤ sizeLine; omega, fun L nL => ?_⟩
        have sL := same_more (x := .lst [.int 2, .int 9]) (Same.refl G2) nL
        refine ⟨_, rfl, L, _, _, _, rfl, rfl, SqL.of upd_same, hm, p, d, s, c, m, rfl, R2.same sL, m0, small (by omega), by omega, fun r d1 c1 G3 r0 r1 e3 R3 K3 => ?_⟩
        obtain ⟨n, rfl⟩ : ∃ n : Nat, r = (n : Int) := ⟨r.toNat, by omega⟩
        have K3 : KeepP p _ G3 := K3
        refine ⟨p, d1, s, c1, n, rfl, R3, by omega, by omega, fun t o te sc ones tens hun scales d5 c5 G5 N5 l5 near5 R5 e5 K5 => ?_⟩
        have K5 : KeepP p _ G5 := K5
        have l20 : scales.length ≤ 20 := by omega
        have tp := R3.ne N5.n0
        have op := R3.ne N5.n1
        have tep := R3.ne N5.n2
        have scp := R3.ne N5.n3
        have T5 := N5.tabQ l20
        have K25 : KeepP p G1 G5 := ((K2.trans (KeepP.of sL)).trans K3).trans K5
        refine ⟨_, rfl, _, rfl, p, d5, s, c5, t, o, te, sc, ones, tens, hun, scales, rfl, R5, T5.tb.at_, tp, op, tep, scp, N5.l1, N5.l2, l20, N5.good, near5, by omega, fun t1 o1 te1 sc1 ones1 tens1 hun1 scales1 d6 c6 G6 N6 l6 R6 e6 K6 => ?_⟩
        have K6 : KeepP p G5 G6 := K6
        have T6 := T5.keepP R5 K6
        have A6 := N6.tabQ (by omega)
        refine ⟨_, rfl, _, rfl, p, d6, s, c6, t, o, te, sc, ones, tens, hun, scales, rfl, R6, T6.tb.at_, tp, op, tep, scp, N5.l1, N5.l2, l20, N5.good, near5, by omega, fun t2 o2 te2 sc2 ones2 tens2 hun2 scales2 d7 c7 G7 N7 l7 R7 e7 K7 => ?_⟩
        have K7 : KeepP p G6 G7 := K7
        have T7 := T6.keepP R6 K7
        have A7 := A6.keepP R6 K7
        have B7 := N7.tabQ (by omega)
        refine ⟨_, rfl, by show 3 ≤ sizeLine; omega, fun U nU => ?_⟩
        have sU := same_more (x := .lst [.ref t1, .ref t2, .ref t]) (Same.refl G7) nU
        have hU : upd G7 U (.lst [.ref t1, .ref t2, .ref t]) U = some (.lst [.ref t1, .ref t2, .ref t]) := upd_same
        have Up := R7.ne nU
        generalize upd G7 U (.lst [.ref t1, .ref t2, .ref t]) = GU at sU hU
        have RU := R7.same sU
        have TU := T7.same sU
        have AU := A7.same sU
        have BU := B7.same sU
        refine ⟨U, rfl, ⟨_, SqL.of hU⟩, for_list (K := K) (a := U) (xs := [.ref t1, .ref t2, .ref t]) (fun q σ G9 => ∃ (x5 : Option V) (d9 c9 : Int), σ = [some (.ref a), some (.int (0 + (i : Int))), some (.ref p), some (.int (0 + (j : Int))), some (.ref t), x5] ∧ RngAtD G9 p d9 s c9 ∧ c9 ≤ c7 + 400 * (q : Int) ∧ KeepP p GU G9) ⟨x5, d7, c7, rfl, RU, by omega, KeepP.of (Same.refl _)⟩ (fun q σ G9 _ ⟨_, _, _, _, _, _, s⟩ => SqL.of (s _ _ hU Up)) ?_ ?_⟩
        · rintro q y σ G9 hq ⟨x5, d9, c9, rfl, R9, e9, K9⟩
          have T9 := TU.keepP RU K9
          have q3 : q < 3 := (List.getElem?_eq_some_iff.mp hq).1
          obtain ⟨t', o', te', sc', ones', tens', hun', scales', rfl, T', l'⟩ : ∃ (t' o' te' sc' : Addr) (ones' tens' : List Str) (hun' : Str) (scales' : List Str), y = .ref t' ∧ Tab G9 t' ones' tens' hun' scales' o' te' sc' ∧ scales.length = scales'.length := by
            match q, hq with
            | 0, hq => exact ⟨_, _, _, _, _, _, _, _, (Option.some.inj hq).symm, AU.keepP RU K9, l6.symm⟩
            | 1, hq => exact ⟨_, _, _, _, _, _, _, _, (Option.some.inj hq).symm, BU.keepP RU K9, l7.symm⟩
            | 2, hq => exact ⟨_, _, _, _, _, _, _, _, (Option.some.inj hq).symm, T9, rfl⟩
            | (q + 3), hq => exact nomatch hq
          refine ⟨_, rfl, _, rfl, _, rfl, p, d9, s, c9, t, o, te, sc, ones, tens, hun, scales, t', o', te', sc', ones', tens', hun', scales', rfl, R9, by omega, T9, T', l20, l', fun d10 c10 G10 R10 e10 K10 => ?_⟩
          refine ⟨true, rfl, ?_⟩
          refine ite2 (fun z => by cases z) (fun _ => ?_)
          exact ⟨_, d10, c10, rfl, R10, by omega, K9.trans K10⟩
        · rintro σ G9 ⟨x5, d9, c9, rfl, R9, e9, K9⟩
          have e9' : c9 ≤ c7 + 1200 := e9
          exact ⟨_, _, _, d9, c9, rfl, R9, by omega, (((K25.trans K6).trans K7).trans (KeepP.of sU)).trans K9⟩
      · rintro σ G2 ⟨x3, x4, x5, d, c, rfl, R2, e2, K2⟩
        refine ⟨_, _, _, _, _, rfl, fun q o e => K2 _ _ (s1 _ _ (sG _ _ e)) fun z => ?_⟩
        rw [z] at e
        have := sG _ _ e
        rw [np] at this
        cases this
    rintro τ G ⟨x1, x2, x3, x4, x5, rfl, sG⟩
    exact k _
end
end LB
set_option Elab.async false
set_option linter.all false
set_option maxRecDepth 100000
set_option maxHeartbeats 8000000
/-! What the top has written: tuples of texts, defs with a default. -/
namespace LB
open PySem L2 Wk
def isStrV : Value → Bool
  | .str _ _ => true
  | _ => false
theorem strs_vals : ∀ {l : List Value}, l.all isStrV = true → ∃ xs, xs.length = l.length ∧ Vals xs l
  | [], _ => ⟨[], rfl, .nil⟩
  | v :: l, h => by
    rw [List.all_cons, Bool.and_eq_true] at h
    obtain ⟨xs, e, r⟩ := strs_vals h.2
    cases v with
    | str x t => exact ⟨.str x :: xs, congrArg Nat.succ e, .cons ⟨t, rfl⟩ r⟩
    | _ => cases h.1
/-- a tuple of texts at the top -/
def TupAt (K : PySem.W.Frag) (x : Str) (n : Nat) (E : Addr) : Prop := PySem.W.nsIn K mainGlobals x = some (some (.ref E)) ∧ ∃ (o : Obj) (its : Array Value) (m : Nat), K.lookup E = some o ∧ o.cls = .type "tuple" ∧ o.data = .seq its m ∧ its.size = n ∧ its.toList.all isStrV = true
theorem tup_at {K : PySem.W.Frag} {x : Str} {n : Nat} {E : Addr} {o : Obj} {its : Array Value} {m : Nat} (a : PySem.W.nsIn K mainGlobals x = some (some (.ref E))) (l : K.lookup E = some o) (c : o.cls = .type "tuple") (d : o.data = .seq its m) (s : its.size = n)
    (f : its.toList.all isStrV = true) : TupAt K x n E := ⟨a, o, its, m, l, c, d, s, f⟩
theorem TupAt.seq {K : PySem.W.Frag} {x : Str} {n : Nat} {E : Addr} (h : TupAt K x n E) (hn : n ≤ 1000) : ∃ xs : List V, xs.length = n ∧ ∀ H, SqT K H E xs := by
  obtain ⟨_, o, its, m, l, c, d, s, f⟩ := h
  obtain ⟨xs, e, r⟩ := strs_vals f
  have big : 1000 ≤ sizeLine := by decide
  refine ⟨xs, e.trans (by rw [Array.length_toList, s]), fun H => .inr ⟨o, its, m, l, c, d, by omega, r⟩⟩
theorem defD_at {K : PySem.W.Frag} {x : Str} {st : Stmt} {f T : Addr} {oc : Value} {od : Option Addr} {kV doc pm : Value} {an : Option Addr} {cdv ct : Value} {osl : Array (Option Value)} {oT : Obj} {n : Nat} (a : PySem.W.nsIn K mainGlobals x = some (some (.ref f)))
    (l : K.lookup f = some ⟨oc, od, .func (PySem.W.fnOf x x (defArgs st) (defBody st) (defScope st) (.ref T) kV doc pm an cdv ct), osl⟩) (c : PySem.W.codeIn K cdv x = true) (lT : K.lookup T = some oT) (dT : oT.data = .seq #[.none] n) (k : PySem.W.keepIn K (.ref f) = true) : DefD K x st f :=
  ⟨a, ⟨_, _, _, _, _, _, _, _, _, _, l, c, _, _, lT, dT⟩, k⟩
end LB
set_option Elab.async false
set_option linter.all false
set_option maxRecDepth 100000
set_option maxHeartbeats 8000000
/-! From what the top has written: valid tables, draws, the end of a law. -/
namespace LB
open PySem L2 Wk
open Bg (Bg Wo)
/-- valid tables: what checks them -/
structure PT (K : PySem.W.Frag) (fW fC fM E1 E2 : Addr) (tk : Tok) : Prop where
  aW : DefAt K "is_word" sIsWord fW
  aC : DefAt K "check_table" sCheck fC
  aM : DefAt K "limit" sLimit fM
  t1 : TupAt K "ENGLISH_ONES" 20 E1
  t2 : TupAt K "ENGLISH_TENS" 8 E2
  tL : PySem.W.nsIn K mainGlobals "LONGEST_WORD" = some (some (.int 20 tk))
  zL : PySem.W.nsIn K mainGlobals "len" = some none
theorem PT.limit {P : Program} {w : World} {K : PySem.W.Frag} {mg : Str → Option Value} {base h : Heap} {fW fC fM E1 E2 : Addr} {tk : Tok} (p : PT K fW fC fM E1 E2 tk) (X : K.In h) (G : h.Ns mainGlobals mg) (A : CoreA P w K mg base) :
    ∃ fd, Def1 P w K mg base "limit" 3 fM fd ["table"] spLimit0 := by
  have no : ∀ {x : Str}, PySem.W.nsIn K mainGlobals x = some none → mg x = none := fun z => PySem.W.mg_none_of X G z
  have at_ : ∀ {x : Str} {v : Value}, PySem.W.nsIn K mainGlobals x = some (some v) → mg x = some v := fun z => PySem.W.mg_of X G z
  have TP : TxtP K mg E1 E2 := ⟨no p.zL, ⟨tk, at_ p.tL⟩, at_ p.t1.1, at_ p.t2.1, p.t1.seq (by decide), p.t2.seq (by decide)⟩
  obtain ⟨_, _, DT⟩ := A.topOf
  obtain ⟨dW, DW⟩ := def1_mk (P := P) (w := w) (base := base) (ps := ["text"]) X G p.aW (fun _ _ _ _ _ _ us hl => match us, hl with | [_], _ => rfl) fun fd F => ok_isWord F TP
  obtain ⟨dC, DC⟩ := def1_mk (P := P) (w := w) (base := base) (ps := ["table"]) X G p.aC (fun _ _ _ _ _ _ us hl => match us, hl with | [_], _ => rfl) fun fd F => ok_check F TP DW.ok DW.g DW.k DW.b
  exact def1_mk (P := P) (w := w) (base := base) (ps := ["table"]) X G p.aM (fun _ _ _ _ _ _ us hl => match us, hl with | [_], _ => rfl) fun fd F => ok_limit0 F DC DT
theorem walkT {kk : Nat} {l : PySem.W.OpenLaw} {q : Program} {loose : List Str} {XP : (Str → Option Value) → Heap → Prop} {YP : World → Heap → Prop} {d : DefRec} {K : Params → PySem.W.Frag} (hn : l.most = some 63) (hdf : d.params.defaults = []) (hr : Room kk PySem.callerA)
    (hY : ∀ (w : World) (h : Heap), YP w h → (K w.params).In h)
    (F : ∀ (w : World) (mg : Str → Option Value) (fa : Addr) (h : Heap), (K w.params).In h → h.Ns mainGlobals mg → mg d.name = some (.ref fa) →
      ∃ fd : FuncData, (∀ (s : Shared) (u : Value), BindsTo s fd ⟨[u], []⟩ [("script", u)]) ∧ ∀ base : Heap, (K w.params).In base → base.Ns mainGlobals mg → FnG l.prog w (K w.params) mg base CX0 kk fa fd ["script"] (spTrue (K w.params))) :
    PySem.W.WalkO q loose XP YP l.row.toRowW d [] (fun f vs => PySem.call f vs) :=
  walkG (n := 63) (k := kk) (x := "script") (CX := fun _ => CX0) (sp := fun w => spTrue (K w.params)) hn (by decide) hdf hr hY F (fun _ _ a ns hl _ hS => ⟨a, ns, rfl, hS, hl, fun _ => rfl⟩) fun _ _ _ _ _ z => z
end LB
set_option Elab.async false
set_option linter.all false
set_option maxRecDepth 100000
set_option maxHeartbeats 4000000
namespace LB
open PySem L2 Wk
open Bg (Bg Wo)
section
variable {P : Program} {w : World} {K : PySem.W.Frag} {mg : Str → Option Value} {base h : Heap}
theorem numW_mk {fN : Addr} (X : K.In h) (G : h.Ns mainGlobals mg) (A : CoreA P w K mg base) (B : CoreB P w K mg base) (aN : DefAt K "number_within" sNumW fN) : ∃ fd, Def1 P w K mg base "number_within" 4 fN fd ["table", "place", "low", "high"] spNumW := by
  obtain ⟨_, _, DV⟩ := A.vocab
  obtain ⟨_, _, DS⟩ := A.start
  obtain ⟨_, _, DT⟩ := A.steps
  obtain ⟨_, _, DC⟩ := A.count
  obtain ⟨_, _, DO⟩ := B.own
  obtain ⟨_, _, DE⟩ := B.ends
  exact def1_mk (P := P) (w := w) (base := base) (ps := ["table", "place", "low", "high"]) X G aN (fun _ _ _ _ _ _ us hl => match us, hl with | [_, _, _, _], _ => rfl) fun fd F => ok_numW F DV DS DO DE DT DC
end
end LB
set_option Elab.async false
set_option linter.all false
set_option maxRecDepth 100000
set_option maxHeartbeats 8000000
/-! k48: from what the top has written to the law. -/
namespace LB
open PySem L2 Wk
open Bg (Bg Wo)
/-- a method's def as it stands -/
structure MAt (K : PySem.W.Frag) (x q : Str) (st : Stmt) (f : Addr) : Prop where
  fn : ∃ (oc : Value) (od : Option Addr) (kV doc pm : Value) (an : Option Addr) (cdv ct : Value) (osl : Array (Option Value)),
    K.lookup f = some ⟨oc, od, .func (PySem.W.fnOf x q (defArgs st) (defBody st) (defScope st) .none kV doc pm an cdv ct), osl⟩ ∧ PySem.W.codeIn K cdv q = true
  kf : PySem.W.keepIn K (.ref f) = true
  isf : PySem.W.isFn K (.ref f) = true
theorem m_at {K : PySem.W.Frag} {x q : Str} {st : Stmt} {f : Addr} {oc : Value} {od : Option Addr} {kV doc pm : Value} {an : Option Addr} {cdv ct : Value} {osl : Array (Option Value)}
    (l : K.lookup f = some ⟨oc, od, .func (PySem.W.fnOf x q (defArgs st) (defBody st) (defScope st) .none kV doc pm an cdv ct), osl⟩) (c : PySem.W.codeIn K cdv q = true) (k : PySem.W.keepIn K (.ref f) = true) (i : PySem.W.isFn K (.ref f) = true) : MAt K x q st f :=
  ⟨⟨_, _, _, _, _, _, _, _, _, l, c⟩, k, i⟩
theorem prop_at {K : PySem.W.Frag} {C p g : Addr} {f : Str} {rest : List Value} (a : PySem.W.findIn K (.ref C) f = some (some (.ref p))) (b : PySem.W.specialIn K (.ref p) "__get__" = some (some (.builtin "property.__get__"))) (c : PySem.W.takesIn K (.ref p) = some true)
    (d : PySem.W.recIn K p "property" = some (.ref g :: rest)) : PropOf K C f p g := ⟨a, b, c, ⟨_, d⟩⟩
/-- the class as it stands -/
structure HTop (K : PySem.W.Frag) (CH fI fC : Addr) : Prop where
  ns : PySem.W.nsIn K mainGlobals "HiddenTable" = some (some (.ref CH))
  pg : PySem.W.plainGet K CH Str.empty = true
  hd : PySem.W.hasDictIn K CH = true
  po : PySem.W.plainOver K CH = true
  sa : PySem.W.findIn K (.ref CH) "__setattr__" = some (some (.builtin "object.__setattr__"))
  nt : PySem.W.findIn K (.ref CH) "_table" = some none
  nq : PySem.W.findIn K (.ref CH) "_questions" = some none
  makes : PySem.W.makesIn K CH = true
  ini : PySem.W.findIn K (.ref CH) "__init__" = some (some (.ref fI))
  kp : PySem.W.keepIn K (.ref CH) = true
  com : PySem.W.findIn K (.ref CH) "comes_before" = some (some (.ref fC))
theorem kbM {K : PySem.W.Frag} {x q : Str} {st : Stmt} {f : Addr} {fd : FuncData} {s a b : Str} (F : Fun K x q st f fd)
    (hk : ∀ (kV doc pm : Value) (an : Option Addr) (cdv ct : Value) (z u v : Value), bindArgs (PySem.W.fnOf x q (defArgs st) (defBody st) (defScope st) .none kV doc pm an cdv ct) ⟨[z], [(b, u), (a, v)]⟩ = pure [(s, z), (a, v), (b, u)]) :
    KBn K fd [s, a, b] 1 [b, a] (fun us ws => [us.getD 0 .none, ws.getD 1 .none, ws.getD 0 .none]) (fun us zs => [us.getD 0 .non, zs.getD 1 .non, zs.getD 0 .non]) := by
  obtain ⟨oc, od, kV, doc, pm, an, cdv, ct, osl, rfl, lk, hcd⟩ := F.ex
  refine ⟨fun s us ws X e1 e2 => ?_, fun {vs us zs ws} r1 r2 => ?_⟩
  · match us, ws, e1, e2 with
    | [z], [u, v], _, _ => exact .of_eq (hk kV doc pm an cdv ct z u v)
  · have at_ : ∀ {vs : List V} {us : List Value}, Vals vs us → ∀ j, RelV (vs.getD j .non) (us.getD j .none) := by
      intro vs us r j
      induction r generalizing j with
      | nil => rfl
      | cons h _ ih =>
        cases j with
        | zero => exact h
        | succ j => exact ih j
    exact .cons (at_ r1 0) (.cons (at_ r2 1) (.cons (at_ r2 0) .nil))
theorem all_mk {l : PySem.W.OpenLaw} {w : World} {K : PySem.W.Frag} {h : Heap} {mg : Str → Option Value} {fa fL fP fNA gT gW gV gS gF gP gC gH gO gZ hG hW hS hO hE hP iW iC iM E1 E2 CH fI fS fC9 pS C0 C1 i0 i1 kCp kCN kNW kBl kCR kCB kBf kAf kIO kLd kSm kPt kBg kOl kFi kSc kBe kSo kPo kD kEn kSh kLo kBk kPw kVa kNe kTo kAR kHR kRi : Addr} {tk : Tok} (X : K.In h) (G : h.Ns mainGlobals mg) (hfa : mg "law" = some (.ref fa))
    (aL : DefAt K "law" sLaw fL) (aP : DefD K "place" sPlace fP) (aNA : DefD K "number_at" sNumAt fNA) (pA : PA K gT gW gV gS gF gP gC gH gO gZ) (pB : PB K hG hW hS hO hE hP) (pT : PT K iW iC iM E1 E2 tk)
    (aCp : DefAt K "copied" sCopied kCp) (aCN : DefAt K "check_number" sCheckNum kCN) (aNW : DefAt K "number_within" sNumW kNW) (aBl : DefAt K "checked_below" sBelow kBl) (aCR : DefAt K "check_range" sCheckRng kCR) (aCB : DefAt K "count_before" sCountB kCB) (aBf : DefAt K "before" sBefore kBf) (aAf : DefAt K "after" sAfter kAf) (aIO : DefAt K "in_order" sInOrder kIO) (aLd : DefAt K "_leading_into" sLeading kLd) (aSm : DefAt K "same_order" sSame kSm) (aPt : DefAt K "parting_numbers" sParting kPt) (aBg : DefAt K "_beginnings" sBegin kBg) (aOl : DefAt K "_one_word_longer" sOneLonger kOl) (aFi : DefAt K "find" sFind kFi) (aSc : DefAt K "_scale_numbers" sScaleNums kSc) (aBe : DefAt K "_behind_hundred" sBehind kBe) (aSo : DefAt K "_spot" sSpotP kSo) (aPo : DefAt K "_law_pool" sPool kPo) (aD : DefAt K "_law_draw" sDraw kD) (aEn : DefAt K "_law_english" sEnglish kEn) (aSh : DefAt K "_law_short" sShort kSh) (aLo : DefAt K "_law_longer" sLonger kLo) (aBk : DefAt K "_law_book" sBook kBk) (aPw : DefAt K "_law_power" sPower kPw) (aVa : DefAt K "_law_value" sValue kVa) (aNe : DefAt K "_law_near" sNear kNe) (aTo : DefAt K "_law_told" sTold kTo) (aAR : DefAt K "_law_alike_right" sAlikeRight kAR) (aHR : DefAt K "_law_hidden_right" sHiddenRight kHR) (aRi : DefAt K "_law_right" sRight kRi)
    (c0 : ClsAt K "InvalidTable" "InvalidTable.__init__" (inClass (top 3) 0) C0 i0) (c1 : ClsAt K "InvalidNumber" "InvalidNumber.__init__" (inClass (top 4) 0) C1 i1)
    (hT : HTop K CH fI fC9) (mI : MAt K "__init__" "HiddenTable.__init__" (inClass cHiddenTable 0) fI) (mS : MAt K "scales" "HiddenTable.scales" (inClass cHiddenTable 1) fS) (mC : MAt K "comes_before" "HiddenTable.comes_before" (inClass cHiddenTable 3) fC9) (prS : PropOf K CH "scales" pS fS)
    (zSe : PySem.W.nsIn K mainGlobals "set" = some none) (zAb : PySem.W.nsIn K mainGlobals "abs" = some none) (zLi : PySem.W.nsIn K mainGlobals "list" = some none) :
    ∃ fd : FuncData, (∀ (s : Shared) (v : Value), BindsTo s fd ⟨[v], []⟩ [("script", v)]) ∧ ∀ base : Heap, K.In base → base.Ns mainGlobals mg → FnG l.prog w K mg base CX0 11 fa fd ["script"] (spTrue K) := by
  obtain ⟨nL, ⟨_, _, kV, doc, pm, an, cdv, ct, _, lL, cL⟩, kL⟩ := aL
  cases hfa.symm.trans (PySem.W.mg_of X G nL)
  have FL := fun_mk (st := sLaw) lL cL kL
  obtain ⟨nCp, ⟨_, _, _, _, _, _, _, _, _, lCp, ccCp⟩, kCp'⟩ := aCp
  have FCp := fun_mk (st := sCopied) lCp ccCp kCp'
  obtain ⟨nCN, ⟨_, _, _, _, _, _, _, _, _, lCN, ccCN⟩, kCN'⟩ := aCN
  have FCN := fun_mk (st := sCheckNum) lCN ccCN kCN'
  obtain ⟨nNW, ⟨_, _, _, _, _, _, _, _, _, lNW, ccNW⟩, kNW'⟩ := aNW
  have FNW := fun_mk (st := sNumW) lNW ccNW kNW'
  obtain ⟨nBl, ⟨_, _, _, _, _, _, _, _, _, lBl, ccBl⟩, kBl'⟩ := aBl
  have FBl := fun_mk (st := sBelow) lBl ccBl kBl'
  obtain ⟨nCR, ⟨_, _, _, _, _, _, _, _, _, lCR, ccCR⟩, kCR'⟩ := aCR
  have FCR := fun_mk (st := sCheckRng) lCR ccCR kCR'
  obtain ⟨nCB, ⟨_, _, _, _, _, _, _, _, _, lCB, ccCB⟩, kCB'⟩ := aCB
  have FCB := fun_mk (st := sCountB) lCB ccCB kCB'
  obtain ⟨nBf, ⟨_, _, _, _, _, _, _, _, _, lBf, ccBf⟩, kBf'⟩ := aBf
  have FBf := fun_mk (st := sBefore) lBf ccBf kBf'
  obtain ⟨nAf, ⟨_, _, _, _, _, _, _, _, _, lAf, ccAf⟩, kAf'⟩ := aAf
  have FAf := fun_mk (st := sAfter) lAf ccAf kAf'
  obtain ⟨nIO, ⟨_, _, _, _, _, _, _, _, _, lIO, ccIO⟩, kIO'⟩ := aIO
  have FIO := fun_mk (st := sInOrder) lIO ccIO kIO'
  obtain ⟨nLd, ⟨_, _, _, _, _, _, _, _, _, lLd, ccLd⟩, kLd'⟩ := aLd
  have FLd := fun_mk (st := sLeading) lLd ccLd kLd'
  obtain ⟨nSm, ⟨_, _, _, _, _, _, _, _, _, lSm, ccSm⟩, kSm'⟩ := aSm
  have FSm := fun_mk (st := sSame) lSm ccSm kSm'
  obtain ⟨nPt, ⟨_, _, _, _, _, _, _, _, _, lPt, ccPt⟩, kPt'⟩ := aPt
  have FPt := fun_mk (st := sParting) lPt ccPt kPt'
  obtain ⟨nBg, ⟨_, _, _, _, _, _, _, _, _, lBg, ccBg⟩, kBg'⟩ := aBg
  have FBg := fun_mk (st := sBegin) lBg ccBg kBg'
  obtain ⟨nOl, ⟨_, _, _, _, _, _, _, _, _, lOl, ccOl⟩, kOl'⟩ := aOl
  have FOl := fun_mk (st := sOneLonger) lOl ccOl kOl'
  obtain ⟨nFi, ⟨_, _, _, _, _, _, _, _, _, lFi, ccFi⟩, kFi'⟩ := aFi
  have FFi := fun_mk (st := sFind) lFi ccFi kFi'
  obtain ⟨nSc, ⟨_, _, _, _, _, _, _, _, _, lSc, ccSc⟩, kSc'⟩ := aSc
  have FSc := fun_mk (st := sScaleNums) lSc ccSc kSc'
  obtain ⟨nBe, ⟨_, _, _, _, _, _, _, _, _, lBe, ccBe⟩, kBe'⟩ := aBe
  have FBe := fun_mk (st := sBehind) lBe ccBe kBe'
  obtain ⟨nSo, ⟨_, _, _, _, _, _, _, _, _, lSo, ccSo⟩, kSo'⟩ := aSo
  have FSo := fun_mk (st := sSpotP) lSo ccSo kSo'
  obtain ⟨nPo, ⟨_, _, _, _, _, _, _, _, _, lPo, ccPo⟩, kPo'⟩ := aPo
  have FPo := fun_mk (st := sPool) lPo ccPo kPo'
  obtain ⟨nD, ⟨_, _, _, _, _, _, _, _, _, lD, ccD⟩, kD'⟩ := aD
  have FD := fun_mk (st := sDraw) lD ccD kD'
  obtain ⟨nEn, ⟨_, _, _, _, _, _, _, _, _, lEn, ccEn⟩, kEn'⟩ := aEn
  have FEn := fun_mk (st := sEnglish) lEn ccEn kEn'
  obtain ⟨nSh, ⟨_, _, _, _, _, _, _, _, _, lSh, ccSh⟩, kSh'⟩ := aSh
  have FSh := fun_mk (st := sShort) lSh ccSh kSh'
  obtain ⟨nLo, ⟨_, _, _, _, _, _, _, _, _, lLo, ccLo⟩, kLo'⟩ := aLo
  have FLo := fun_mk (st := sLonger) lLo ccLo kLo'
  obtain ⟨nBk, ⟨_, _, _, _, _, _, _, _, _, lBk, ccBk⟩, kBk'⟩ := aBk
  have FBk := fun_mk (st := sBook) lBk ccBk kBk'
  obtain ⟨nPw, ⟨_, _, _, _, _, _, _, _, _, lPw, ccPw⟩, kPw'⟩ := aPw
  have FPw := fun_mk (st := sPower) lPw ccPw kPw'
  obtain ⟨nVa, ⟨_, _, _, _, _, _, _, _, _, lVa, ccVa⟩, kVa'⟩ := aVa
  have FVa := fun_mk (st := sValue) lVa ccVa kVa'
  obtain ⟨nNe, ⟨_, _, _, _, _, _, _, _, _, lNe, ccNe⟩, kNe'⟩ := aNe
  have FNe := fun_mk (st := sNear) lNe ccNe kNe'
  obtain ⟨nTo, ⟨_, _, _, _, _, _, _, _, _, lTo, ccTo⟩, kTo'⟩ := aTo
  have FTo := fun_mk (st := sTold) lTo ccTo kTo'
  obtain ⟨nAR, ⟨_, _, _, _, _, _, _, _, _, lAR, ccAR⟩, kAR'⟩ := aAR
  have FAR := fun_mk (st := sAlikeRight) lAR ccAR kAR'
  obtain ⟨nHR, ⟨_, _, _, _, _, _, _, _, _, lHR, ccHR⟩, kHR'⟩ := aHR
  have FHR := fun_mk (st := sHiddenRight) lHR ccHR kHR'
  obtain ⟨nRi, ⟨_, _, _, _, _, _, _, _, _, lRi, ccRi⟩, kRi'⟩ := aRi
  have FRi := fun_mk (st := sRight) lRi ccRi kRi'
  obtain ⟨nW, ⟨_, _, _, _, _, _, _, _, _, lW, ccW⟩, kW'⟩ := pT.aW
  have FW := fun_mk (st := sIsWord) lW ccW kW'
  obtain ⟨nC, ⟨_, _, _, _, _, _, _, _, _, lC, ccC⟩, kC'⟩ := pT.aC
  have FC := fun_mk (st := sCheck) lC ccC kC'
  obtain ⟨nLm, ⟨_, _, _, _, _, _, _, _, _, lLm, ccLm⟩, kLm'⟩ := pT.aM
  have FLm := fun_mk (st := sLimit) lLm ccLm kLm'
  obtain ⟨nTp, ⟨_, _, _, _, _, _, _, _, _, lTp, ccTp⟩, kTp'⟩ := pA.aT
  have FTp := fun_mk (st := sTopOf) lTp ccTp kTp'
  obtain ⟨nGo, ⟨_, _, _, _, _, _, _, _, _, lGo, ccGo⟩, kGo'⟩ := pB.aG
  have FGo := fun_mk (st := sGroupsOf) lGo ccGo kGo'
  obtain ⟨nGw, ⟨_, _, _, _, _, _, _, _, _, lGw, ccGw⟩, kGw'⟩ := pB.aW
  have FGw := fun_mk (st := sGroupWords) lGw ccGw kGw'
  obtain ⟨nSl, ⟨_, _, _, _, _, _, _, _, _, lSl, ccSl⟩, kSl'⟩ := pB.aS
  have FSl := fun_mk (st := sSpelled) lSl ccSl kSl'
  obtain ⟨⟨_, _, _, _, _, _, _, _, _, lmI, cmI⟩, kmI, isFmI⟩ := mI
  have FmI := fun_mk (x := "__init__") (qual := "HiddenTable.__init__") (st := inClass cHiddenTable 0) lmI cmI kmI
  obtain ⟨⟨_, _, _, _, _, _, _, _, _, lmS, cmS⟩, kmS, isFmS⟩ := mS
  have FmS := fun_mk (x := "scales") (qual := "HiddenTable.scales") (st := inClass cHiddenTable 1) lmS cmS kmS
  obtain ⟨⟨_, _, _, _, _, _, _, _, _, lmC, cmC⟩, kmC, isFmC⟩ := mC
  have FmC := fun_mk (x := "comes_before") (qual := "HiddenTable.comes_before") (st := inClass cHiddenTable 3) lmC cmC kmC
  have no : ∀ {x : Str}, PySem.W.nsIn K mainGlobals x = some none → mg x = none := fun z => PySem.W.mg_none_of X G z
  have at_ : ∀ {x : Str} {v : Value}, PySem.W.nsIn K mainGlobals x = some (some v) → mg x = some v := fun z => PySem.W.mg_of X G z
  have TP : TxtP K mg E1 E2 := ⟨no pT.zL, ⟨tk, at_ pT.tL⟩, at_ pT.t1.1, at_ pT.t2.1, pT.t1.seq (by decide), pT.t2.seq (by decide)⟩
  refine ⟨PySem.W.fnOf "law" "law" (defArgs sLaw) (defBody sLaw) (defScope sLaw) .none kV doc pm an cdv ct, fun s v => .of_eq rfl, fun base _ _ => ?_⟩
  have sc : ∀ j ∈ [3, 4], FnScope ["self", "value"] ["self", "value"] (defScope (inClass (top j) 0)) := by
    intro j hj
    simp only [List.mem_cons, List.not_mem_nil, or_false] at hj
    rcases hj with rfl | rfl <;> exact ⟨rfl, rfl, rfl, by decide +kernel, rfl, by decide +kernel, by decide +kernel⟩
  obtain ⟨_, G0⟩ := c0.f (P := l.prog) (w := w) (base := base) X G (sc 3 (by decide)) ⟨_, _, _, _, rfl⟩ rfl (fun _ _ _ _ _ _ us hl => match us, hl with | [_, _], _ => rfl)
  obtain ⟨_, G1⟩ := c1.f (P := l.prog) (w := w) (base := base) X G (sc 4 (by decide)) ⟨_, _, _, _, rfl⟩ rfl (fun _ _ _ _ _ _ us hl => match us, hl with | [_, _], _ => rfl)
  have A := pA.core (P := l.prog) (w := w) (base := base) X G
  have B := pB.core (P := l.prog) (w := w) (base := base) pA X G
  obtain ⟨_, _, DPW⟩ := B.placeW
  obtain ⟨_, _, DEd⟩ := B.ends
  obtain ⟨_, _, DOw⟩ := B.own
  obtain ⟨_, _, DVo⟩ := A.vocab
  obtain ⟨_, _, DSt⟩ := A.start
  obtain ⟨_, _, DFo⟩ := A.fol
  obtain ⟨_, _, DStp⟩ := A.steps
  obtain ⟨_, _, DCo⟩ := A.count
  obtain ⟨dNW, DNW⟩ := numW_mk X G A B ⟨nNW, ⟨_, _, _, _, _, _, _, _, _, lNW, ccNW⟩, kNW'⟩
  obtain ⟨dM, DM⟩ := pT.limit X G A
  obtain ⟨dP, FP⟩ := aP.fun
  have bP := bind3 (x := "place") (st := sPlace) (a := "table") (b := "number") (c := "below") FP (fun _ _ _ _ _ _ _ _ _ _ _ => ⟨_, rfl, rfl⟩) (fun _ _ _ _ _ _ _ _ _ _ => ⟨_, rfl, rfl⟩) (fun _ _ _ _ _ _ _ _ _ _ _ => ⟨_, rfl, rfl⟩)
  obtain ⟨dn, vn, bn⟩ := bP.b2
  obtain ⟨dA, FA⟩ := aNA.fun
  have bA := bind3 (x := "number_at") (st := sNumAt) (a := "table") (b := "spot") (c := "below") FA (fun _ _ _ _ _ _ _ _ _ _ _ => ⟨_, rfl, rfl⟩) (fun _ _ _ _ _ _ _ _ _ _ => ⟨_, rfl, rfl⟩) (fun _ _ _ _ _ _ _ _ _ _ _ => ⟨_, rfl, rfl⟩)
  obtain ⟨dm, vm, bm⟩ := bA.b2
  have PWd := ok_isWordB (P := l.prog) (w := w) (base := base) FW TP
  have EC : DefX l.prog w K mg base "check_table" 3 _ _ ["table"] (spCheckX C0) := ⟨ok_checkX FC TP PWd (at_ nW) kW' (FW.binds (ps := ["text"]) fun _ _ _ _ _ _ us hl => match us, hl with | [_], _ => rfl) G0, at_ nC, kC', (FC.binds (ps := ["table"]) fun _ _ _ _ _ _ us hl => match us, hl with | [_], _ => rfl)⟩
  have DW : Def1 l.prog w K mg base "is_word" 1 _ _ ["text"] spIsWord := ⟨ok_isWord FW TP, at_ nW, kW', (FW.binds (ps := ["text"]) fun _ _ _ _ _ _ us hl => match us, hl with | [_], _ => rfl)⟩
  have DC : Def1 l.prog w K mg base "check_table" 2 _ _ ["table"] spCheck := ⟨ok_check FC TP DW.ok DW.g DW.k DW.b, at_ nC, kC', (FC.binds (ps := ["table"]) fun _ _ _ _ _ _ us hl => match us, hl with | [_], _ => rfl)⟩
  have DTp : Def1 l.prog w K mg base "top_of" 1 _ _ ["table"] spTopOf := ⟨ok_topOf FTp, at_ nTp, kTp', (FTp.binds (ps := ["table"]) fun _ _ _ _ _ _ us hl => match us, hl with | [_], _ => rfl)⟩
  have ELm : DefX l.prog w K mg base "limit" 4 _ _ ["table"] (spLimitX C0) := ⟨ok_limitX FLm EC.ok EC.g EC.k EC.b DTp, at_ nLm, kLm', (FLm.binds (ps := ["table"]) fun _ _ _ _ _ _ us hl => match us, hl with | [_], _ => rfl)⟩
  have ECN : DefX l.prog w K mg base "check_number" 5 _ _ ["table", "number"] (spChkN C1) := ⟨ok_chkN FCN ELm G1, at_ nCN, kCN', (FCN.binds (ps := ["table", "number"]) fun _ _ _ _ _ _ us hl => match us, hl with | [_, _], _ => rfl)⟩
  have DCp : Def1 l.prog w K mg base "copied" 1 _ _ ["table"] spCopied := ⟨ok_copied FCp (no zLi), at_ nCp, kCp', (FCp.binds (ps := ["table"]) fun _ _ _ _ _ _ us hl => match us, hl with | [_], _ => rfl)⟩
  have DCpX : Def1 l.prog w K mg base "copied" 1 _ _ ["table"] spCopiedX := ⟨ok_copiedX FCp (no zLi), at_ nCp, kCp', (FCp.binds (ps := ["table"]) fun _ _ _ _ _ _ us hl => match us, hl with | [_], _ => rfl)⟩
  have DGo : Def1 l.prog w K mg base "groups_of" 1 _ _ ["number"] spGroups := ⟨ok_groups FGo (no pB.zD), at_ nGo, kGo', (FGo.binds (ps := ["number"]) fun _ _ _ _ _ _ us hl => match us, hl with | [_], _ => rfl)⟩
  have DGw : Def1 l.prog w K mg base "_group_words" 1 _ _ ["table", "group"] spGW := ⟨ok_groupWords FGw (no pB.zD), at_ nGw, kGw', (FGw.binds (ps := ["table", "group"]) fun _ _ _ _ _ _ us hl => match us, hl with | [_, _], _ => rfl)⟩
  have DSl : Def1 l.prog w K mg base "spelled" 2 _ _ ["table", "number"] spSpelled := ⟨ok_spelled FSl DGo DGw (no pB.zV) (no pB.zR) (no pB.zL), at_ nSl, kSl', (FSl.binds (ps := ["table", "number"]) fun _ _ _ _ _ _ us hl => match us, hl with | [_, _], _ => rfl)⟩
  have HC : HidC K CH := ⟨⟨hT.pg, hT.hd, hT.po, hT.sa⟩, hT.nt, hT.nq⟩
  have PI := ok_hInit FmI EC DCp HC
  have PS' := ok_hScal (P := l.prog) (w := w) (base := base) FmS HC (no pB.zL)
  have PC := ok_hCome FmC ECN DSl HC
  have HM : HidM l.prog w K mg base CH C0 C1 fI fC9 fI fI fS pS _ _ (PySem.W.fnOf "law" "law" (defArgs sLaw) (defBody sLaw) (defScope sLaw) .none kV doc pm an cdv ct) _ _ := ⟨at_ hT.ns, HC, ⟨hT.makes, hT.ini, isFmI, hT.kp⟩, PI, (FmI.binds (ps := ["self", "table"]) fun _ _ _ _ _ _ us hl => match us, hl with | [_, _], _ => rfl), ⟨hT.com, isFmC, kmC⟩, PC, (FmC.binds (ps := ["self", "first", "second"]) fun _ _ _ _ _ _ us hl => match us, hl with | [_, _, _], _ => rfl), kbM (s := "self") (a := "first") (b := "second") FmC (fun _ _ _ _ _ _ _ _ _ => rfl), prS, PS', (FmS.binds (ps := ["self"]) fun _ _ _ _ _ _ us hl => match us, hl with | [_], _ => rfl)⟩
  have IX := ok_hInitX FmI EC DCpX HC
  have DBl : Def1 l.prog w K mg base "checked_below" 4 _ _ ["table", "below"] spBelow0 := ⟨ok_below0 FBl DM, at_ nBl, kBl', (FBl.binds (ps := ["table", "below"]) fun _ _ _ _ _ _ us hl => match us, hl with | [_, _], _ => rfl)⟩
  have DPl : Def1 l.prog w K mg base "place" 5 fP dP ["table", "number", "below"] spPlace0 := ⟨ok_place0 FP DBl DPW, at_ aP.1, aP.2.2, bP.b3⟩
  have DNA : Def1 l.prog w K mg base "number_at" 5 fNA dA ["table", "spot", "below"] spNumAt0 := ⟨ok_numAt0 FA DBl DNW, at_ aNA.1, aNA.2.2, bA.b3⟩
  have DCN : Def1 l.prog w K mg base "check_number" 4 _ _ ["table", "number"] spCN0 := ⟨ok_checkNum0 FCN DM, at_ nCN, kCN', (FCN.binds (ps := ["table", "number"]) fun _ _ _ _ _ _ us hl => match us, hl with | [_, _], _ => rfl)⟩
  have DCR : Def1 l.prog w K mg base "check_range" 4 _ _ ["table", "low", "high"] spCR0 := ⟨ok_checkRng0 FCR DM, at_ nCR, kCR', (FCR.binds (ps := ["table", "low", "high"]) fun _ _ _ _ _ _ us hl => match us, hl with | [_, _, _], _ => rfl)⟩
  have DCB : Def1 l.prog w K mg base "count_before" 5 _ _ ["table", "number", "low", "high"] spCB0 := ⟨ok_countB0 FCB DCN DCR DPW, at_ nCB, kCB', (FCB.binds (ps := ["table", "number", "low", "high"]) fun _ _ _ _ _ _ us hl => match us, hl with | [_, _, _, _], _ => rfl)⟩
  have DBf : Def1 l.prog w K mg base "before" 6 _ _ ["table", "number", "low", "high"] (spNext0 false) := ⟨ok_before0 FBf DCB DNW, at_ nBf, kBf', (FBf.binds (ps := ["table", "number", "low", "high"]) fun _ _ _ _ _ _ us hl => match us, hl with | [_, _, _, _], _ => rfl)⟩
  have DAf : Def1 l.prog w K mg base "after" 6 _ _ ["table", "number", "low", "high"] (spNext0 true) := ⟨ok_after0 FAf DCB DNW, at_ nAf, kAf', (FAf.binds (ps := ["table", "number", "low", "high"]) fun _ _ _ _ _ _ us hl => match us, hl with | [_, _, _, _], _ => rfl)⟩
  have DLd : Def1 l.prog w K mg base "_leading_into" 4 _ _ ["beginning", "words", "low", "high"] (spLeadF K) := ⟨ok_leadF FLd DStp DCo, at_ nLd, kLd', (FLd.binds (ps := ["beginning", "words", "low", "high"]) fun _ _ _ _ _ _ us hl => match us, hl with | [_, _, _, _], _ => rfl)⟩
  have GIO := ok_ordG (P := l.prog) (w := w) (base := base) FIO DCR DVo DSt DOw DEd DLd
  have DOl : Def1 l.prog w K mg base "_one_word_longer" 4 _ _ ["table", "beginning"] (spOneO K) := ⟨ok_oneO FOl DStp DVo DOw, at_ nOl, kOl', (FOl.binds (ps := ["table", "beginning"]) fun _ _ _ _ _ _ us hl => match us, hl with | [_, _], _ => rfl)⟩
  have DBg : Def1 l.prog w K mg base "_beginnings" 3 _ _ ["table"] (spBegin K) := ⟨ok_begin FBg DSt DFo, at_ nBg, kBg', (FBg.binds (ps := ["table"]) fun _ _ _ _ _ _ us hl => match us, hl with | [_], _ => rfl)⟩
  have DPt : Def1 l.prog w K mg base "parting_numbers" 5 _ _ ["first", "second"] spPartT := ⟨ok_partT (ok_partO FPt DC DBg DOl (no pB.zL) (no pA.zE) (no pB.zR)), at_ nPt, kPt', (FPt.binds (ps := ["first", "second"]) fun _ _ _ _ _ _ us hl => match us, hl with | [_, _], _ => rfl)⟩
  have DSm : Def1 l.prog w K mg base "same_order" 6 _ _ ["first", "second"] spSameT := ⟨ok_sameT FSm DPt, at_ nSm, kSm', (FSm.binds (ps := ["first", "second"]) fun _ _ _ _ _ _ us hl => match us, hl with | [_, _], _ => rfl)⟩
  have DBe : Def1 l.prog w K mg base "_behind_hundred" 1 _ _ ["number"] spBeh := ⟨ok_beh FBe, at_ nBe, kBe', (FBe.binds (ps := ["number"]) fun _ _ _ _ _ _ us hl => match us, hl with | [_], _ => rfl)⟩
  have DSc : Def1 l.prog w K mg base "_scale_numbers" 1 _ _ ["scales"] spScN := ⟨ok_scN FSc (no pB.zR), at_ nSc, kSc', (FSc.binds (ps := ["scales"]) fun _ _ _ _ _ _ us hl => match us, hl with | [_], _ => rfl)⟩
  have DSo : Def1 l.prog w K mg base "_spot" 7 _ _ ["hidden", "number", "numbers"] (spSpot CH) := ⟨ok_spot FSo HM (no pB.zL), at_ nSo, kSo', (FSo.binds (ps := ["hidden", "number", "numbers"]) fun _ _ _ _ _ _ us hl => match us, hl with | [_, _, _], _ => rfl)⟩
  have DFi : Def1 l.prog w K mg base "find" 8 _ _ ["hidden"] (spFind CH) := ⟨ok_find FFi HM DBe DSc DSo (no pB.zL) (no pB.zR) (no zLi), at_ nFi, kFi', (FFi.binds (ps := ["hidden"]) fun _ _ _ _ _ _ us hl => match us, hl with | [_], _ => rfl)⟩
  have DPo : Def1 l.prog w K mg base "_law_pool" 1 _ _ ["script", "at"] (spPool K) := ⟨ok_pool FPo (no pB.zL) (no pA.zX) (no zAb), at_ nPo, kPo', (FPo.binds (ps := ["script", "at"]) fun _ _ _ _ _ _ us hl => match us, hl with | [_, _], _ => rfl)⟩
  have DD : Def1 l.prog w K mg base "_law_draw" 1 _ _ ["pool", "many"] spDrawD := ⟨ok_drawD FD, at_ nD, kD', (FD.binds (ps := ["pool", "many"]) fun _ _ _ _ _ _ us hl => match us, hl with | [_, _], _ => rfl)⟩
  have DEn : Def1 l.prog w K mg base "_law_english" 1 _ _ ["scales_here"] spEnglishW := ⟨ok_englishW FEn, at_ nEn, kEn', (FEn.binds (ps := ["scales_here"]) fun _ _ _ _ _ _ us hl => match us, hl with | [_], _ => rfl)⟩
  have DSh : Def1 l.prog w K mg base "_law_short" 1 _ _ ["signs", "most"] spShort := ⟨ok_short FSh (no pB.zR), at_ nSh, kSh', (FSh.binds (ps := ["signs", "most"]) fun _ _ _ _ _ _ us hl => match us, hl with | [_, _], _ => rfl)⟩
  have DLo : Def1 l.prog w K mg base "_law_longer" 2 _ _ ["pool", "word"] spLonger := ⟨ok_longer FLo DD, at_ nLo, kLo', (FLo.binds (ps := ["pool", "word"]) fun _ _ _ _ _ _ us hl => match us, hl with | [_, _], _ => rfl)⟩
  have DBk : Def1 l.prog w K mg base "_law_book" 3 _ _ ["pool", "scales_here"] spBookN := ⟨ok_bookN FBk DD DEn DSh DLo (no pA.zS) (no zSe) (no pB.zR) (no pB.zL), at_ nBk, kBk', (FBk.binds (ps := ["pool", "scales_here"]) fun _ _ _ _ _ _ us hl => match us, hl with | [_, _], _ => rfl)⟩
  have DPw : Def1 l.prog w K mg base "_law_power" 1 _ _ ["many"] spPower := ⟨ok_power FPw (no pB.zR), at_ nPw, kPw', (FPw.binds (ps := ["many"]) fun _ _ _ _ _ _ us hl => match us, hl with | [_], _ => rfl)⟩
  have DVa : Def1 l.prog w K mg base "_law_value" 2 _ _ ["pool", "book"] spValueD := ⟨ok_valueD FVa DPw DD (no pB.zL) (no pB.zR) (no pA.zN) (no pA.zX), at_ nVa, kVa', (FVa.binds (ps := ["pool", "book"]) fun _ _ _ _ _ _ us hl => match us, hl with | [_, _], _ => rfl)⟩
  have DNe : Def1 l.prog w K mg base "_law_near" 2 _ _ ["pool", "book"] spNear := ⟨ok_near FNe DD (no pB.zL) (no zSe) (no pB.zR), at_ nNe, kNe', (FNe.binds (ps := ["pool", "book"]) fun _ _ _ _ _ _ us hl => match us, hl with | [_, _], _ => rfl)⟩
  have DTo : Def1 l.prog w K mg base "_law_told" 9 _ _ ["book"] spToldB := ⟨ok_toldB FTo HM IX DFi, at_ nTo, kTo', (FTo.binds (ps := ["book"]) fun _ _ _ _ _ _ us hl => match us, hl with | [_], _ => rfl)⟩
  have DAR : Def1 l.prog w K mg base "_law_alike_right" 9 _ _ ["pool", "one", "two"] spAlikeR := ⟨ok_alikeR FAR DD DPw DVa DPl vn bn DNA vm bm GIO (at_ nIO) kIO' (FIO.binds (ps := ["table", "low", "high"]) fun _ _ _ _ _ _ us hl => match us, hl with | [_, _, _], _ => rfl) (no pB.zL) (no pB.zR) (no pA.zX) (no zLi), at_ nAR, kAR', (FAR.binds (ps := ["pool", "one", "two"]) fun _ _ _ _ _ _ us hl => match us, hl with | [_, _, _], _ => rfl)⟩
  have DHR : Def1 l.prog w K mg base "_law_hidden_right" 9 _ _ ["pool", "book"] spHidR := ⟨ok_hidR FHR HM IX DVa DPl vn bn DBf DAf (no pB.zR) (no pA.zX) (no pA.zN), at_ nHR, kHR', (FHR.binds (ps := ["pool", "book"]) fun _ _ _ _ _ _ us hl => match us, hl with | [_, _], _ => rfl)⟩
  have DRi : Def1 l.prog w K mg base "_law_right" 10 _ _ ["pool", "one", "two"] spRt48 := ⟨ok_rt48 FRi DSm DTo DHR DAR DPt DPl vn bn, at_ nRi, kRi', (FRi.binds (ps := ["pool", "one", "two"]) fun _ _ _ _ _ _ us hl => match us, hl with | [_, _, _], _ => rfl)⟩
  exact ok_law48 FL DPo DD DBk DNe DRi (no pB.zL) (no pB.zR) (no pA.zX) (no pA.zN)
end LB
set_option Elab.async false
open PySem PySem.W PyProof.Rows
set_option maxRecDepth 100000 in
set_option maxHeartbeats 0 in
theorem PySem.Challenge.cw_wordorder_k48_whole_orders_and_places_holds : PySem.Challenge.rw_wordorder_k48_whole_orders_and_places.Holds := by
  w_on; o_law; k_head; (case hw => w_witness2)
  k_fill
  refine LB.walkT (kk := 11) (l := PySem.Challenge.rw_wordorder_k48_whole_orders_and_places) rfl rfl ⟨rfl, by decide, by decide⟩ (fun w h Y => PySem.W.kIn_of Y) ?F
  case F =>
    intro w mg fa h KX G hmg
    refine' LB.all_mk KX G hmg ?aL ?aP ?aNA ?pA ?pB ?pT ?aCp ?aCN ?aNW ?aBl ?aCR ?aCB ?aBf ?aAf ?aIO ?aLd ?aSm ?aPt ?aBg ?aOl ?aFi ?aSc ?aBe ?aSo ?aPo ?aD ?aEn ?aSh ?aLo ?aBk ?aPw ?aVa ?aNe ?aTo ?aAR ?aHR ?aRi ?c0 ?c1 ?hT ?mI ?mS ?mC ?prS ?zSe ?zAb ?zLi
    case aL => refine' Wk.def_at ?a ?l ?c ?k; (case a => k_is); (case l => k_is); (case c => k_is); (case k => k_is)
    case aP => refine' LB.defD_at ?a ?l ?c ?lT ?dT ?k; (case a => k_is); (case l => k_is); (case c => k_is); (case lT => k_is); (case dT => rfl); (case k => k_is)
    case aNA => refine' LB.defD_at ?a ?l ?c ?lT ?dT ?k; (case a => k_is); (case l => k_is); (case c => k_is); (case lT => k_is); (case dT => rfl); (case k => k_is)
    case pA =>
      refine' ⟨?pA_aT, ?pA_aW, ?pA_aV, ?pA_aS, ?pA_aF, ?pA_aP, ?pA_aC, ?pA_aH, ?pA_aO, ?pA_aZ, ?pA_zE, ?pA_zS, ?pA_zX, ?pA_zN⟩
      case pA_aT => refine' Wk.def_at ?a ?l ?c ?k; (case a => k_is); (case l => k_is); (case c => k_is); (case k => k_is)
      case pA_aW => refine' Wk.def_at ?a ?l ?c ?k; (case a => k_is); (case l => k_is); (case c => k_is); (case k => k_is)
      case pA_aV => refine' Wk.def_at ?a ?l ?c ?k; (case a => k_is); (case l => k_is); (case c => k_is); (case k => k_is)
      case pA_aS => refine' Wk.def_at ?a ?l ?c ?k; (case a => k_is); (case l => k_is); (case c => k_is); (case k => k_is)
      case pA_aF => refine' Wk.def_at ?a ?l ?c ?k; (case a => k_is); (case l => k_is); (case c => k_is); (case k => k_is)
      case pA_aP => refine' Wk.def_at ?a ?l ?c ?k; (case a => k_is); (case l => k_is); (case c => k_is); (case k => k_is)
      case pA_aC => refine' Wk.def_at ?a ?l ?c ?k; (case a => k_is); (case l => k_is); (case c => k_is); (case k => k_is)
      case pA_aH => refine' Wk.def_at ?a ?l ?c ?k; (case a => k_is); (case l => k_is); (case c => k_is); (case k => k_is)
      case pA_aO => refine' Wk.def_at ?a ?l ?c ?k; (case a => k_is); (case l => k_is); (case c => k_is); (case k => k_is)
      case pA_aZ => refine' LB.zero_at ?n ?l ?c ?d; (case n => k_is); (case l => k_is); (case c => rfl); (case d => rfl)
      case pA_zE => k_is
      case pA_zS => k_is
      case pA_zX => k_is
      case pA_zN => k_is
    case pB =>
      refine' ⟨?pB_aG, ?pB_aW, ?pB_aS, ?pB_aO, ?pB_aE, ?pB_aP, ?pB_zD, ?pB_zV, ?pB_zR, ?pB_zL⟩
      case pB_aG => refine' Wk.def_at ?a ?l ?c ?k; (case a => k_is); (case l => k_is); (case c => k_is); (case k => k_is)
      case pB_aW => refine' Wk.def_at ?a ?l ?c ?k; (case a => k_is); (case l => k_is); (case c => k_is); (case k => k_is)
      case pB_aS => refine' Wk.def_at ?a ?l ?c ?k; (case a => k_is); (case l => k_is); (case c => k_is); (case k => k_is)
      case pB_aO => refine' Wk.def_at ?a ?l ?c ?k; (case a => k_is); (case l => k_is); (case c => k_is); (case k => k_is)
      case pB_aE => refine' Wk.def_at ?a ?l ?c ?k; (case a => k_is); (case l => k_is); (case c => k_is); (case k => k_is)
      case pB_aP => refine' Wk.def_at ?a ?l ?c ?k; (case a => k_is); (case l => k_is); (case c => k_is); (case k => k_is)
      case pB_zD => k_is
      case pB_zV => k_is
      case pB_zR => k_is
      case pB_zL => k_is
    case pT =>
      refine' ⟨?pT_aW, ?pT_aC, ?pT_aM, ?pT_t1, ?pT_t2, ?pT_tL, ?pT_zL⟩
      case pT_aW => refine' Wk.def_at ?a ?l ?c ?k; (case a => k_is); (case l => k_is); (case c => k_is); (case k => k_is)
      case pT_aC => refine' Wk.def_at ?a ?l ?c ?k; (case a => k_is); (case l => k_is); (case c => k_is); (case k => k_is)
      case pT_aM => refine' Wk.def_at ?a ?l ?c ?k; (case a => k_is); (case l => k_is); (case c => k_is); (case k => k_is)
      case pT_t1 => refine' LB.tup_at ?a ?l ?c ?d ?s ?f; (case a => k_is); (case l => k_is); (case c => rfl); (case d => rfl); (case s => rfl); (case f => rfl)
      case pT_t2 => refine' LB.tup_at ?a ?l ?c ?d ?s ?f; (case a => k_is); (case l => k_is); (case c => rfl); (case d => rfl); (case s => rfl); (case f => rfl)
      case pT_tL => k_is
      case pT_zL => k_is
    case aCp => refine' Wk.def_at ?a ?l ?c ?k; (case a => k_is); (case l => k_is); (case c => k_is); (case k => k_is)
    case aCN => refine' Wk.def_at ?a ?l ?c ?k; (case a => k_is); (case l => k_is); (case c => k_is); (case k => k_is)
    case aNW => refine' Wk.def_at ?a ?l ?c ?k; (case a => k_is); (case l => k_is); (case c => k_is); (case k => k_is)
    case aBl => refine' Wk.def_at ?a ?l ?c ?k; (case a => k_is); (case l => k_is); (case c => k_is); (case k => k_is)
    case aCR => refine' Wk.def_at ?a ?l ?c ?k; (case a => k_is); (case l => k_is); (case c => k_is); (case k => k_is)
    case aCB => refine' Wk.def_at ?a ?l ?c ?k; (case a => k_is); (case l => k_is); (case c => k_is); (case k => k_is)
    case aBf => refine' Wk.def_at ?a ?l ?c ?k; (case a => k_is); (case l => k_is); (case c => k_is); (case k => k_is)
    case aAf => refine' Wk.def_at ?a ?l ?c ?k; (case a => k_is); (case l => k_is); (case c => k_is); (case k => k_is)
    case aIO => refine' Wk.def_at ?a ?l ?c ?k; (case a => k_is); (case l => k_is); (case c => k_is); (case k => k_is)
    case aLd => refine' Wk.def_at ?a ?l ?c ?k; (case a => k_is); (case l => k_is); (case c => k_is); (case k => k_is)
    case aSm => refine' Wk.def_at ?a ?l ?c ?k; (case a => k_is); (case l => k_is); (case c => k_is); (case k => k_is)
    case aPt => refine' Wk.def_at ?a ?l ?c ?k; (case a => k_is); (case l => k_is); (case c => k_is); (case k => k_is)
    case aBg => refine' Wk.def_at ?a ?l ?c ?k; (case a => k_is); (case l => k_is); (case c => k_is); (case k => k_is)
    case aOl => refine' Wk.def_at ?a ?l ?c ?k; (case a => k_is); (case l => k_is); (case c => k_is); (case k => k_is)
    case aFi => refine' Wk.def_at ?a ?l ?c ?k; (case a => k_is); (case l => k_is); (case c => k_is); (case k => k_is)
    case aSc => refine' Wk.def_at ?a ?l ?c ?k; (case a => k_is); (case l => k_is); (case c => k_is); (case k => k_is)
    case aBe => refine' Wk.def_at ?a ?l ?c ?k; (case a => k_is); (case l => k_is); (case c => k_is); (case k => k_is)
    case aSo => refine' Wk.def_at ?a ?l ?c ?k; (case a => k_is); (case l => k_is); (case c => k_is); (case k => k_is)
    case aPo => refine' Wk.def_at ?a ?l ?c ?k; (case a => k_is); (case l => k_is); (case c => k_is); (case k => k_is)
    case aD => refine' Wk.def_at ?a ?l ?c ?k; (case a => k_is); (case l => k_is); (case c => k_is); (case k => k_is)
    case aEn => refine' Wk.def_at ?a ?l ?c ?k; (case a => k_is); (case l => k_is); (case c => k_is); (case k => k_is)
    case aSh => refine' Wk.def_at ?a ?l ?c ?k; (case a => k_is); (case l => k_is); (case c => k_is); (case k => k_is)
    case aLo => refine' Wk.def_at ?a ?l ?c ?k; (case a => k_is); (case l => k_is); (case c => k_is); (case k => k_is)
    case aBk => refine' Wk.def_at ?a ?l ?c ?k; (case a => k_is); (case l => k_is); (case c => k_is); (case k => k_is)
    case aPw => refine' Wk.def_at ?a ?l ?c ?k; (case a => k_is); (case l => k_is); (case c => k_is); (case k => k_is)
    case aVa => refine' Wk.def_at ?a ?l ?c ?k; (case a => k_is); (case l => k_is); (case c => k_is); (case k => k_is)
    case aNe => refine' Wk.def_at ?a ?l ?c ?k; (case a => k_is); (case l => k_is); (case c => k_is); (case k => k_is)
    case aTo => refine' Wk.def_at ?a ?l ?c ?k; (case a => k_is); (case l => k_is); (case c => k_is); (case k => k_is)
    case aAR => refine' Wk.def_at ?a ?l ?c ?k; (case a => k_is); (case l => k_is); (case c => k_is); (case k => k_is)
    case aHR => refine' Wk.def_at ?a ?l ?c ?k; (case a => k_is); (case l => k_is); (case c => k_is); (case k => k_is)
    case aRi => refine' Wk.def_at ?a ?l ?c ?k; (case a => k_is); (case l => k_is); (case c => k_is); (case k => k_is)
    case c0 =>
      refine' Wk.cls_at ?ns ?ob ?ve ?ini ?ty ?fn ?co ?kI ?sa ?tyC ?kC ?hd ?nv ?is
      case ns => k_is
      case ob => k_is
      case ve => decide +kernel
      case ini => k_is
      case ty => k_is
      case fn => k_is
      case co => k_is
      case kI => k_is
      case sa => k_is
      case tyC => k_is
      case kC => k_is
      case hd => k_is
      case nv => k_is
      case is => refine' ⟨?_, ?_, ?_, ?_, ?_, ?_, ?_, ?_⟩; (show PySem.W.isClsIn _ _ = true; k_is); all_goals k_is
    case c1 =>
      refine' Wk.cls_at ?ns ?ob ?ve ?ini ?ty ?fn ?co ?kI ?sa ?tyC ?kC ?hd ?nv ?is
      case ns => k_is
      case ob => k_is
      case ve => decide +kernel
      case ini => k_is
      case ty => k_is
      case fn => k_is
      case co => k_is
      case kI => k_is
      case sa => k_is
      case tyC => k_is
      case kC => k_is
      case hd => k_is
      case nv => k_is
      case is => refine' ⟨?_, ?_, ?_, ?_, ?_, ?_, ?_, ?_⟩; (show PySem.W.isClsIn _ _ = true; k_is); all_goals k_is
    case hT =>
      refine' ⟨?h_ns, ?h_pg, ?h_hd, ?h_po, ?h_sa, ?h_nt, ?h_nq, ?h_makes, ?h_ini, ?h_kp, ?h_com⟩
      case h_ns => k_is
      case h_pg => k_is
      case h_hd => k_is
      case h_po => k_is
      case h_sa => k_is
      case h_nt => k_is
      case h_nq => k_is
      case h_makes => k_is
      case h_ini => k_is
      case h_kp => k_is
      case h_com => k_is
    case prS => refine' LB.prop_at ?a ?b ?c ?d; (case a => k_is); (case b => k_is); (case c => k_is); (case d => k_is)
    case mI => refine' LB.m_at ?l ?c ?k ?i; (case l => k_is); (case c => k_is); (case k => k_is); (case i => k_is)
    case mS => refine' LB.m_at ?l ?c ?k ?i; (case l => k_is); (case c => k_is); (case k => k_is); (case i => k_is)
    case mC => refine' LB.m_at ?l ?c ?k ?i; (case l => k_is); (case c => k_is); (case k => k_is); (case i => k_is)
    case zSe => k_is
    case zAb => k_is
    case zLi => k_is
