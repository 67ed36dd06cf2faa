import PyProof.Rows.All
import Wide.All
import OpenK.AllK
import Wide.FinOn
import PyProof.EqAt
import PyProof.EqKinds
import PyProof.TupleCall
import KE.KExcIs
import HandS.ForMost
import HandS.ForExc
import HandS.ExcInit
import HandS.ExcValue
import HandS.ExcField
import HandS.IsInst
import HandS.Defaults
import HandS.Wide
import HandS.StrMore
import HandS.Star
import HandS.SortOrd
import HandS.SortRule
import HandS.DictTup
import HandS.Walk
import HandS.RevRange
import KE.KUnpackStar
import HandS.Text
import HandS.Style
import HandS.TryOnly
import HandS.CallSlots
import PySem.Challenge.RW_wordorder_k08_words_that_follow
set_option Elab.async false
set_option linter.all false
set_option maxRecDepth 100000
set_option maxHeartbeats 4000000
/-! A layer of our own over the hand layer: defs that call repr (no repr under way: FnG), repr of data, exceptions with an own __init__ as values. -/
namespace Wk
open PySem PySem.Spec PyProof.Rows L2

/-! ### defs under which no repr is under way -/
/-- the promise of a def, asked only where no repr is under way -/
structure FnG (P : Program) (w : World) (K : PySem.W.Frag) (mg : Str → Option Value) (base : Heap) (CX : CXT)
    (k : Nat) (f : Addr) (fd : FuncData) (ps : List Str) (sp : Sp) : Prop where
  args : ∀ vs H Q E, sp vs H Q E → vs.length = ps.length
  go : ∀ (A : Around) (out : List Env) (s : Shared) (H : Hp) (ar : Args) (us : List Value) (vs : List V) (Q : VK) (E : XK),
    A.guards = some [] → Room k A → Env0 P w K mg base A out s H → BindsTo s fd ar (ps.zip us) → Vals vs us →
    sp vs H Q E → codeAny (model P w) A (.call (.ref f) ar) (CR CX out P w H s Q E) s

section
variable {P : Program} {w : World} {K : PySem.W.Frag} {mg : Str → Option Value} {base : Heap} {CX : CXT}
variable {k : Nat} {f : Addr} {fd : FuncData} {ps : List Str} {sp : Sp}

theorem FnG.of (F : FnOk P w K mg base CX k f fd ps sp) : FnG P w K mg base CX k f fd ps sp :=
  ⟨F.len, fun A out s H ar us vs Q E _ r e b v q => F.run A out s H ar us vs Q E r e b v q⟩

/-- a def by its body -/
theorem fnG_of {name qual : Str} {params : Arguments} {body : List Stmt} {scope : Scope} {dV kV doc pm cdv ct oc : Value} {an od : Option Addr}
    {osl : Array (Option Value)} {N : List Str}
    (lk : K.lookup f = some ⟨oc, od, .func (PySem.W.fnOf name qual params body scope dV kV doc pm an cdv ct), osl⟩)
    (code : PySem.W.codeIn K cdv qual = true) (S : FnScope N ps scope) (args : ∀ vs H Q E, sp vs H Q E → vs.length = ps.length)
    (hb : ∀ (A : Around) (out : List Env) (s : Shared) (H : Hp) (vs : List V) (Q : VK) (E : XK), A.guards = some [] →
      Room k (A.deeper (envOfC qual scope s.heap.objs.size f cdv)) → sp vs H Q E →
      ∃ t, PSs (cxOf CX P w K mg base N qual scope f cdv A out s H E) body t ∧ t { nx := fun _ H' => Q .non H', rt := Q } (start N vs) H) :
    FnG P w K mg base CX (k + 1) f (PySem.W.fnOf name qual params body scope dV kV doc pm an cdv ct) ps sp := by
  refine ⟨args, ?_⟩
  intro A out s H ar us vs Q E gd room e0 bt rv want
  have nargs := args vs H Q E want
  have inK : K.In s.heap := e0.mod.kin.keeps (fun b o z => (e0.bs b o z).1)
  have noL : s.heap.NoLimit := e0.mod.nolimit.keeps (fun b o z => (e0.bs b o z).1)
  have kinds : ∀ y ∈ ps.zip us, scope.names.lookup y.1 = some .local ∨
      (scope.names.lookup y.1 = some .cell ∧ ((cellsFrom (s.heap.objs.size + 1) scope.names []).lookup y.1).isSome = true) := by
    intro y hy
    have hm := (List.of_mem_zip (show (y.1, y.2) ∈ ps.zip us from hy)).1
    cases S.par y.1 hm with
    | inl q => exact Or.inl q
    | inr q => exact Or.inr ⟨q, PySem.W.cellsFrom_some _ _ _ (Or.inl q)⟩
  refine codeAny_call_function room.depth (inK _ _ lk) rfl S.co S.gen rfl (PySem.W.codeRec_of inK code) (bt _ _ _ _ ?_)
  refine wpAny_newFunctionEnv_cells S.kind kinds fun env he s1 x => ?_
  cases he
  refine ⟨noL.keeps x.toInCall.keep, codeAny_func ?_⟩
  obtain ⟨t, ht, hq⟩ := hb A out s H vs Q E gd (room.deeper _) want
  have I := inv_start (CX := CX) (P := P) (w := w) (K := K) (mg := mg) (base := base) (E := E) S room.hd e0 nargs rv x
  refine wpAny_mono (ht.run [] s1 (start N vs) H _ I hq) ?_ (fun _ _ z => z)
  intro fl s' hs
  cases fl with
  | ret u =>
    obtain ⟨v, σ', H', J, r', q⟩ := hs
    exact ⟨v, H', J.os, J.bare, J.base, J.hok, r', q⟩
  | next =>
    obtain ⟨σ', H', J, q⟩ := hs
    exact ⟨V.non, H', J.os, J.bare, J.base, J.hok, rfl, q⟩
  | brk => obtain ⟨_, _, _, q⟩ := hs; exact q.elim
  | cont => obtain ⟨_, _, _, q⟩ := hs; exact q.elim
end

/-- the short word for it: nothing leaves the def -/
theorem okG {P : Program} {w : World} {K : PySem.W.Frag} {mg : Str → Option Value} {base : Heap} {x qual : Str} {st : Stmt} {f : Addr} {fd : FuncData}
    {N ps : List Str} {k : Nat} {sp : Sp} (F : Fun K x qual st f fd) (S : FnScope N ps (defScope st)) (args : ∀ vs H Q E, sp vs H Q E → vs.length = ps.length)
    (hb : ∀ (cdv : Value) (A : Around) (out : List Env) (s : Shared) (H : Hp) (vs : List V) (Q : VK) (E : XK), A.guards = some [] →
      Room k (A.deeper (envOfC qual (defScope st) s.heap.objs.size f cdv)) → sp vs H Q E →
      ∃ t, PSs (cxOf CX0 P w K mg base N qual (defScope st) f cdv A out s H E).nox (defBody st) t ∧ t { nx := fun _ H' => Q .non H', rt := Q } (start N vs) H) :
    FnG P w K mg base CX0 (k + 1) f fd ps sp := by
  obtain ⟨oc, od, kV, doc, pm, an, cdv, ct, osl, rfl, lk, code⟩ := F.ex
  refine fnG_of lk code S args ?_
  intro A out s H vs Q E gd room want
  obtain ⟨t, h, q⟩ := hb cdv A out s H vs Q E gd room want
  exact ⟨t, h.nox, q⟩

section
variable {X : Cx} {CX : CXT} {k : Nat} {f : Addr} {fd : FuncData} {ps : List Str} {sp : Sp} {dvs : List V} {ds : List Value} {E : XK}
/-- f(e, ..) of such a def -/
theorem pe_callG {x : Str} {p pos : Pos} {e : Expr} {es : List Expr} {t : TA} (F : FnG X.prog X.w X.K X.mg X.base CX k f fd ps sp) (gd : X.A.guards = some []) (hr : Room k X.A)
    (hg : Gl X x) (hm : X.mg x = some (.ref f)) (hk : PySem.W.keepIn X.K (.ref f) = true) (hb : Binds X.K fd ps ds) (hd : Vals dvs ds) (hx : Passes CX X E) (ha : PA X (e :: es) t)
    (hdb : (x == ("__debug__" : Str)) = false := by decide) (he : starEach (e :: es) X.env = (false, eval e X.env) :: starEach es X.env := by rfl)
    (hpl : (backTo pos (starEach es X.env)).any (·.1) = false := by rfl) :
    PE X (.Call (.Name x p) (e :: es) [] pos) (tCall sp dvs E t) := by
  constructor
  intro pins s σ H Q I h
  refine wpAny_Call_Name_kw (ld_glob I hg hm ?_ hdb)
  refine PySem.W.callWith_K (h₀ := X.base) I.ok.mod.kin hk (thn (ha.run pos pins s σ H _ I h) ?_) he hpl
  rintro us s1 ⟨vs, H1, I1, r, q⟩
  refine ⟨I1.kIn, ?_⟩
  have r2 : Vals (vs ++ dvs) (us ++ ds) := r.append hd
  have hl : (us ++ ds).length = ps.length := r2.length.symm.trans (F.args _ _ _ _ q)
  refine wpAny_call (codeAny_mono (F.go X.A X.stack s1 H1 ⟨us, []⟩ (us ++ ds) (vs ++ dvs) Q E gd hr I1.env0 (hb s1 us I1.kIn hl) r2 q) ?_)
  intro r s' hq
  match r, hq with
  | .error e, hq => exact hx pins σ H1 s1 e s' I1 hq
  | .ok (.ret u), hq => exact I1.after hq
end

/-- the law's own call -/
theorem law_callG {P : Program} {w : World} {K : PySem.W.Frag} {mg mb : Str → Option Value} {CX : CXT} {k : Nat} {fa a : Addr} {fd : FuncData} {x : Str} {sp : Sp} {s1 : Shared} {vs : List Value} {ns : List Int}
    (KX : K.In s1.heap) (hns : s1.heap.Ns mainGlobals mg) (hb : s1.heap.Ns builtinsNs mb) (hbb : ∀ x : Str, x ≠ "__name__" → mb x = bootBuiltins x) (hlim : s1.heap.NoLimit) (hg : s1.gens = #[])
    (ha : s1.heap.get? a = some { cls := .type "list", data := .seq vs.toArray }) (hi : IntsAre vs ns) (hl : ns.length ≤ sizeLine) (hr : Room k callerA)
    (F : ∀ base : Heap, K.In base → base.Ns mainGlobals mg → FnG P w K mg base CX k fa fd [x] sp) (hbind : ∀ (s : Shared) (u : Value), BindsTo s fd ⟨[u], []⟩ [(x, u)])
    (hsp : ∀ H : Hp, Only H → SqL K H a (ns.map V.int) → sp [.ref a] H (fun v _ => v = .bl true) fun _ _ _ => False)
    (hCX : ∀ H e s', CX [] H s1 (fun _ _ _ => False) e s' → False) :
    codeAny (model P w) callerA (.call (.ref fa) ⟨[.ref a], []⟩) (fun r s' => r = .ok (.ret (.bool true)) ∧ OldK s1.heap s'.heap ∧ s'.os = s1.os ∧ AllBare s'.gens) s1 := by
  -- the promise at this one state, as a promise of any surroundings: the run is asked at callerA alone
  have rv := vals_ints hi
  have lenV := hi.length
  have main : ∀ H : Hp, Only H → SqL K H a (ns.map V.int) → HOk P w H s1.heap → (∀ b, H b ≠ none → b = a) → (H a ≠ none → K.lookup a = none) →
      codeAny (model P w) callerA (.call (.ref fa) ⟨[.ref a], []⟩) (fun r s' => r = .ok (.ret (.bool true)) ∧ OldK s1.heap s'.heap ∧ s'.os = s1.os ∧ AllBare s'.gens) s1 := by
    intro H only sq ok atA notK
    have freeDict : ∀ {b : Addr} {o : Obj} {es : Array DictEntry} {ep : Nat}, s1.heap.get? b = some o → o.data = .dict es ep → H b = none := by
      intro b o es ep e d
      cases q : H b with
      | none => rfl
      | some u =>
        have e' := atA b (by rw [q]; exact fun z => nomatch z)
        subst e'
        rw [ha] at e
        cases e
        cases d
    have nsIn : ∀ {b : Addr} {m : Str → Option Value}, s1.heap.Ns b m → (hidT s1.heap H).Ns b m := by
      rintro b m ⟨o, es, ep, e, d, r⟩
      exact ⟨o, es, ep, hidT_get e (freeDict e d), d, r⟩
    have inB : K.In (hidT s1.heap H) := by
      intro b o e
      refine hidT_get (KX b o e) ?_
      cases q : H b with
      | none => rfl
      | some u =>
        have e' := atA b (by rw [q]; exact fun z => nomatch z)
        subst e'
        have z := notK (by rw [q]; exact fun z => nomatch z)
        rw [z] at e
        cases e
    have limB : (hidT s1.heap H).NoLimit := by
      obtain ⟨mc, h1, h2⟩ := hlim
      exact ⟨mc, nsIn h1, h2⟩
    have md : Mod K mg (hidT s1.heap H) := ⟨inB, nsIn hns, ⟨mb, nsIn hb, hbb⟩, limB⟩
    have e0 : Env0 P w K mg (hidT s1.heap H) callerA [] s1 H :=
      ⟨rfl, md, fun b o e => of_hidT e, Nat.le_of_eq (hidT_size _ _), trivial, fun b hb => (List.not_mem_nil (show b ∈ ([] : List Addr) from hb)).elim, ok, .of_eq hg⟩
    refine codeAny_mono ((F _ inB (nsIn hns)).go callerA [] s1 H ⟨[.ref a], []⟩ [.ref a] [.ref a] _ _ rfl hr e0 (hbind s1 (.ref a)) (.cons rfl .nil) (hsp H only sq)) ?_
    intro r s' h
    match r, h with
    | .error e, h => exact (hCX H e s' h).elim
    | .ok (.ret u), h =>
      obtain ⟨v, H', os, bare, un, ok', r', q⟩ := h
      cases (show v = .bl true from q)
      cases (show u = Value.bool true from r')
      refine ⟨rfl, OldK.of_keep ?_, os, bare⟩
      intro b o e
      cases q : H b with
      | none => exact un.keep b o e q (fun z => List.not_mem_nil (show b ∈ ([] : List Addr) from z)) (fun z => List.not_mem_nil z)
      | some u =>
        rcases only b with z | ⟨ob, xs, z⟩
        · rw [q] at z
          cases z
        · obtain ⟨e1, _⟩ := ok b _ z
          obtain ⟨e2, _⟩ := ok' b _ (un.frzs b ob _ z)
          rw [e] at e1
          cases e1
          exact e2
  cases hk : K.lookup a with
  | some o =>
    have e := KX a o hk
    rw [ha] at e
    cases e
    refine main (fun _ => none) (fun _ => .inl rfl) ?_ (fun b u z => nomatch (show (none : Option HO) = some u from z)) (fun b z => absurd rfl z) (fun z => absurd rfl z)
    exact .inr ⟨_, vs.toArray, _, hk, rfl, rfl, rfl, by rw [List.size_toArray, lenV]; exact hl, by simpa using rv⟩
  | none =>
    let o0 : Obj := { cls := .type "list", data := .seq vs.toArray }
    refine main (fun b => if b = a then some (.frz o0 (.lst (ns.map V.int))) else none) ?_ ?_ ?_ ?_ (fun _ => hk)
    · intro b
      by_cases hb : b = a
      · exact .inr ⟨_, _, if_pos hb⟩
      · exact .inl (if_neg hb)
    · exact .inl (.inr ⟨o0, if_pos rfl⟩)
    · intro b u z
      by_cases hb : b = a
      · cases (if_pos hb).symm.trans z
        subst hb
        exact ⟨ha, by rw [List.length_map]; exact hl, vs, _, rv, ha⟩
      · cases (if_neg hb).symm.trans z
    · intro b z
      by_cases hb : b = a
      · exact hb
      · exact absurd (if_neg hb) z

/-- a statement, and what is known behind it on all its ways; then the rest, once -/
def tMid (t u : TS) : TS := fun D σ H => ∃ M : L2.St → Hp → Prop, t { D with nx := M } σ H ∧ ∀ τ G, M τ G → u D τ G
theorem pss_mid {X : Cx} {st : Stmt} {more : List Stmt} {t u : TS} (a : PS X st t) (b : PSs X more u) : PSs X (st :: more) (tMid t u) := by
  constructor
  intro pins s σ H D I h
  obtain ⟨M, h1, h2⟩ := h
  refine wpAny_execs_cons (thn (a.run pins s σ H { D with nx := M } I h1) ?_)
  intro fl s1 q
  match fl, q with
  | .next, ⟨τ, G, J, q⟩ => exact b.run pins s1 τ G D J (h2 τ G q)
  | .ret _, q => exact q
  | .brk, q => exact q
  | .cont, q => exact q

/-- the end of a law whose def is such a one -/
theorem walkG {l : PySem.W.OpenLaw} {n k : Nat} {q : Program} {loose : List Str} {XP : (Str → Option Value) → Heap → Prop} {YP : World → Heap → Prop} {d : DefRec} {K : Params → PySem.W.Frag} {CX : World → CXT} {sp : World → Sp} {x : Str}
    (hn : l.most = some n) (hn2 : n ≤ sizeLine) (hdf : d.params.defaults = []) (hr : Room k callerA)
    (hY : ∀ (w : World) (h : Heap), YP w h → (K w.params).In h)
    (F : ∀ (w : World) (mg : Str → Option Value) (fa : Addr) (h : Heap), (K w.params).In h → h.Ns mainGlobals mg → mg d.name = some (.ref fa) →
      ∃ fd : FuncData, (∀ (s : Shared) (u : Value), BindsTo s fd ⟨[u], []⟩ [(x, u)]) ∧
        ∀ base : Heap, (K w.params).In base → base.Ns mainGlobals mg → FnG l.prog w (K w.params) mg base (CX w) k fa fd [x] (sp w))
    (hsp : ∀ (w : World) (H : Hp) (a : Addr) (ns : List Int), ns.length ≤ n → Only H → SqL (K w.params) H a (ns.map V.int) → sp w [.ref a] H (fun v _ => v = .bl true) fun _ _ _ => False)
    (hCX : ∀ (w : World) (H : Hp) (s : Shared) (e : Value) (s' : Shared), CX w [] H s (fun _ _ _ => False) e s' → False) :
    PySem.W.WalkO q loose XP YP l.row.toRowW d [] (fun f vs => PySem.call f vs) := by
  refine Att.attach_call hn hdf ?_
  intro w s₀ s₁ mg mb fa o pm cd doc a vs ns G Y ho hd hcd hmg hobj hints hlen hg
  have KX := hY w _ Y
  obtain ⟨fd, hb, hF⟩ := F w mg fa _ KX G.T.g hmg
  exact law_callG KX G.T.g G.T.b G.T.builtins G.T.nolimit hg hobj hints (Nat.le_trans hlen hn2) hr hF hb (fun H hO hS => hsp w H a ns hlen hO hS) (fun H e s' => hCX w H s₁ e s')

end Wk
set_option Elab.async false
set_option linter.all false
set_option maxRecDepth 100000
set_option maxHeartbeats 4000000
/-! Exceptions of own classes with an own __init__, as values: made with positional and keyword arguments, asked by isinstance, their fields read; repr of data. -/
namespace WkE
open PySem PySem.Spec PyProof.Rows PySem.HandSPX
section
variable {prog : Program} {w : World} {A : Around} {E : Value → Shared → Prop} {R : Result → Shared → Prop} {h : Heap} {g : Array GenState} {d : Drawn} {t : Nat} {os : OsState}
variable {nm q : Str} {C N : Addr} {bs bm bmB : List Value} {hdct : Bool} {sn : List Str} {sub : List Value} {ab : Bool} {col : Option Bool} {dd : Option Addr} {k0 k1 k2 k3 k5 : Option Value} {B newId initId : String}
variable {rest : List Value} {kw : List (Str × Value)} {fI : Addr}

theorem newCheck {Q : Unit → Shared → Prop} (F : ExcBaseFacts B newId initId bmB) (hT : ∀ X : String, bm.contains (.type X) = bmB.contains (.type X))
    (hC : h.get? C = some (excClassObj nm q C N bs bm hdct sn sub ab col dd k0 k1 k2 k3 k5 newId)) (fin : Q () ⟨h, g, d, t, os⟩) :
    wpAny (model prog w) A (checkBuiltinCall newId ⟨.ref C :: rest, kw⟩) Q E ⟨h, g, d, t, os⟩ := by
  have inB : (Value.ref C :: bm).contains (.type B) = true := by
    rw [List.contains_cons, hT, F.hasB]
    exact Bool.or_true _
  have star := F.noStar
  simp only [checkBuiltinCall, F.newKind, F.newSplit, F.newRow]
  repeat (first
    | refine wpAny_loadPart_at hC ?_
    | (refine wpAny_isSubtype_exc hC ?_; rw [inB])
    | refine wpAny_staticBase_exc hC ?_
    | refine wpAny_madeBy_exc hC ?_
    | simp only [bne_self_eq_false, Bool.false_eq_true, if_false]
    | wp_step)
  exact fin

theorem newRun (F : ExcBaseFacts B newId initId bmB) (hT : ∀ X : String, bm.contains (.type X) = bmB.contains (.type X))
    (hC : h.get? C = some (excClassObj nm q C N bs bm hdct sn sub ab col dd k0 k1 k2 k3 k5 newId))
    (fin : R (.ok (.ret (.ref (h.objs.size + 1)))) ⟨(h.push (W.kdv_tup rest)).push (excO C h.objs.size), g, d, t, os⟩) (few : rest.length ≤ sizeLine) :
    codeAny (model prog w) A (.builtin newId ⟨.ref C :: rest, kw⟩) R ⟨h, g, d, t, os⟩ := by
  have ends := F.ends
  have inB : (Value.ref C :: bm).contains (.type B) = true := by
    rw [List.contains_cons, hT, F.hasB]
    exact Bool.or_true _
  have noA : (Value.ref C :: bm).contains (.type "AttributeError") = false := by
    rw [List.contains_cons, hT, F.noAttr]
    rfl
  have noN : (Value.ref C :: bm).contains (.type "NameError") = false := by
    rw [List.contains_cons, hT, F.noName]
    rfl
  refine PySem.codeAny_builtinAt F.entry ?_
  unfold Builtin.«BaseException.__new__»
  refine PySem.wpAt_bind ?_
  show PySem.wpAt _ _ _ (stack >>= _) _ _ _
  refine PySem.wpAt_bind (PySem.wpAt_stack fun p below => PySem.wpAt_of_wpAny ?_)
  wp_walk
  refine PySem.wpAt_of_wpAny ?_
  rw [F.owner]
  repeat (first
    | with_reducible refine wpAny_madeHere_exc F.canon hC ?_
    | with_reducible refine wpAny_loadPart_at hC ?_
    | (with_reducible refine wpAny_isSubtype_exc hC ?_; first | rw [inB] | rw [noA] | rw [noN])
    | wp_step)
  show R _ _
  rw [Heap.size_push]
  exact fin

theorem typeCall {Q : Fin → Shared → Prop} (F : ExcBaseFacts B newId initId bmB) (hT : ∀ X : String, bm.contains (.type X) = bmB.contains (.type X))
    (hC : h.get? C = some (excClassObj nm q C N bs bm hdct sn sub ab col dd k0 k1 k2 k3 k5 newId))
    (hi : W.Looks (model prog w) h (typeLookup (.ref C) "__init__") (some (.ref fI))) (hb : ∀ self, W.Looks (model prog w) h (bindSpecial (.ref fI) self) (.ref fI, [self])) (few : rest.length ≤ sizeLine)
    (fin : codeAny (model prog w) A (.call (.ref fI) ⟨.ref (h.objs.size + 1) :: rest, kw⟩)
      (fun r s' => match r with | .ok (.ret v) => v = .none ∧ Q (.done (.ret (.ref (h.objs.size + 1)))) s' | .ok _ => False | .error e => E e s')
      ⟨(h.push (W.kdv_tup rest)).push (excO C h.objs.size), g, d, t, os⟩) :
    wpAny (model prog w) A (Builtin.«type.__call__» ⟨.ref C :: rest, kw⟩) Q E ⟨h, g, d, t, os⟩ := by
  repeat (first | with_reducible refine wpAny_loadPart_at hC ?_ | with_reducible refine wpAny_madeBy_exc hC ?_ | wp_step)
  refine codeAny_call_builtin_code (Code.quiet_builtin _ F.quiet) (newCheck F hT hC ?_)
  refine newRun F hT hC ?_ few
  show wpAny _ _ _ _ _ _
  have kept : ∀ b o, h.get? b = some o → ((h.push (W.kdv_tup rest)).push (excO C h.objs.size)).get? b = some o := by
    intro b o e
    exact Heap.get?_push_of_some _ (Heap.get?_push_of_some _ e)
  have hC1 := kept _ _ hC
  have atNew : ((h.push (W.kdv_tup rest)).push (excO C h.objs.size)).get? (h.objs.size + 1) = some (excO C h.objs.size) := by heap_get
  have inC : (Value.ref C :: bm).contains (.ref C) = true := by simp
  have i1 := hi.keeps kept
  have b1 := (hb (.ref (h.objs.size + 1))).keeps kept
  unfold isInstance
  repeat (first | with_reducible refine wpAny_loadPart_at atNew ?_ | (with_reducible refine wpAny_isSubtype_exc hC1 ?_; rw [inC]) | wp_step)
  show wpAny _ _ (typeLookup (.ref C) _) _ _ _
  refine i1.at ?_
  refine wpAny_holding (wpAny_bind (b1.at ?_))
  refine wpAny_bind (wpAny_call (codeAny_mono fin fun r s' z => ?_))
  rcases r with e | (v | _ | _ | _) <;> first | exact z | exact z.elim | skip
  obtain ⟨rfl, z⟩ := z
  first
    | exact wpAny_pure (wpAny_pure z)
    | (wp_walk; exact z)

theorem typeCallCheck {Q : Unit → Shared → Prop} (hC : h.get? C = some (excClassObj nm q C N bs bm hdct sn sub ab col dd k0 k1 k2 k3 k5 newId))
    (fin : Q () ⟨h, g, d, t, os⟩) : wpAny (model prog w) A (checkBuiltinCall "type.__call__" ⟨.ref C :: rest, kw⟩) Q E ⟨h, g, d, t, os⟩ := by
  have f3 := tc_sub
  have isT : (⟨h, g, d, t, os⟩ : Shared).TypeIs (.ref C) "type" := ⟨_, hC, rfl⟩
  simp only [checkBuiltinCall, tc_kind, tc_split]
  repeat (any_goals (first | assumption | with_reducible refine wpAny_loadPart_at hC ?_ | with_reducible refine wpAny_onRaise ?_ | with_reducible refine wpAny_map ?_ | wp_step))

/-- C(.., k = v, ..) -/
theorem callNew (F : ExcBaseFacts B newId initId bmB) (hT : ∀ X : String, bm.contains (.type X) = bmB.contains (.type X))
    (hC : h.get? C = some (excClassObj nm q C N bs bm hdct sn sub ab col dd k0 k1 k2 k3 k5 newId))
    (hi : W.Looks (model prog w) h (typeLookup (.ref C) "__init__") (some (.ref fI))) (hb : ∀ self, W.Looks (model prog w) h (bindSpecial (.ref fI) self) (.ref fI, [self])) (few : rest.length ≤ sizeLine)
    (fin : codeAny (model prog w) (A.under (.builtin "type.__call__" ⟨.ref C :: rest, kw⟩)) (.call (.ref fI) ⟨.ref (h.objs.size + 1) :: rest, kw⟩) (W.InitBack (h.objs.size + 1) R)
      ⟨(h.push (W.kdv_tup rest)).push (excO C h.objs.size), g, d, t, os⟩) :
    codeAny (model prog w) A (.call (.ref C) ⟨rest, kw⟩) R ⟨h, g, d, t, os⟩ := by
  have f1 := tc_lookup
  have f2 := tc_bind (.ref C)
  have isT : (⟨h, g, d, t, os⟩ : Shared).TypeIs (.ref C) "type" := ⟨_, hC, rfl⟩
  refine codeAny_of_tree ?_
  show wpAny _ _ (callAny (.ref C) _) _ _ _
  repeat (any_goals (first | assumption | with_reducible refine wpAny_loadPart_at hC ?_ | wp_step))
  refine ⟨rfl, ?_⟩
  refine codeAny_call_builtin_at (Code.quiet_builtin _ (by decide +kernel)) entry_typeCall (typeCallCheck hC (typeCall F hT hC hi hb few ?_))
  refine codeAny_mono fin fun r s' z => ?_
  rcases r with e | (v | _ | _ | _) <;> exact z
end
end WkE

namespace Wk
open PySem PySem.Spec PyProof.Rows L2
/-- C(.., k = v, ..) of an exception class with its own __init__, as a value: n positional values, m keywords; H3 holds the exception and its dict -/
def tMkV (C : Addr) (n m : Nat) (sp : Sp) (gV : List V → List V → List V) (t tk : TA) : TE := fun σ H Q => t σ H fun vs H1 => tk σ H1 fun zs H2 => vs.length = n ∧ zs.length = m ∧
  ∀ a, H2 a = none → sp (gV (.ref a :: vs) zs) (upd H2 a (exo a C none)) (fun v H3 => v = .non ∧ Q (.ref a) H3) fun _ _ _ => False
section
variable {X : Cx} {CX : CXT} {k n : Nat} {fI C : Addr} {fd : FuncData} {ps ks : List Str} {sp : Sp} {x : Str} {p pos : Pos} {e : Expr} {es : List Expr} {kws : List Keyword} {t tk : TA}
variable {g : List Value → List Value → List Value} {gV : List V → List V → List V}
theorem runMkV {pins : List (Addr × Obj)} {σ : L2.St} {H : Hp} {s : Shared} {Q : VK} {us ws : List Value} {vs zs : List V} (T : OexC X.K C)
    (iC : PySem.W.findIn X.K (.ref C) "__init__" = some (some (.ref fI))) (tI : PySem.W.typeIn X.K (.ref fI) = some (.type "function"))
    (F : FnOk X.prog X.w X.K X.mg X.base CX k fI fd ps sp) (hr : Room (k + 1) X.A) (hb : KBn X.K fd ps (n + 1) ks g gV) (hx : Passes CX X fun _ _ _ => False)
    (I : Inv X pins σ H s) (r : Vals vs us) (rz : Vals zs ws) (l1 : vs.length = n) (l2 : zs.length = ks.length) (hn : n ≤ 1000)
    (want : ∀ a, H a = none → sp (gV (.ref a :: vs) zs) (upd H a (exo a C none)) (fun v H3 => v = .non ∧ Q (.ref a) H3) fun _ _ _ => False) :
    wpAny (model X.prog X.w) X.A (call (.ref C) us (ks.zip ws)) (EP X pins σ Q) X.xe s := by
  obtain ⟨nm, q, N, bs, bm, sn, sub, ab, col, dd, k0, k1, k2, k3, k5, hC, hbm⟩ := T.cls
  obtain ⟨hp, gs, dr, tok, os⟩ := s
  have le : hp.objs.size ≤ hp.objs.size + 1 := Nat.le_succ _
  have free : H (hp.objs.size + 1) = none := I.hok.fresh le
  have hq := want (hp.objs.size + 1) free
  have kept : ∀ b o, hp.get? b = some o → ((hp.push (PySem.W.kdv_tup us)).push (PySem.HandSPX.excO C hp.objs.size)).get? b = some o :=
    fun b o e => Heap.get?_push_of_some _ (Heap.get?_push_of_some _ e)
  have atNew : ((hp.push (PySem.W.kdv_tup us)).push (PySem.HandSPX.excO C hp.objs.size)).get? (hp.objs.size + 1) = some (PySem.HandSPX.excO C hp.objs.size) := by heap_get
  have I2 : Inv X pins σ (upd H (hp.objs.size + 1) (exo (hp.objs.size + 1) C none)) ⟨(hp.push (PySem.W.kdv_tup us)).push (PySem.HandSPX.excO C hp.objs.size), gs, dr, tok, os⟩ :=
    I.laid (t' := tok) kept le (exo_ok atNew)
  have r1 : Vals (V.ref (hp.objs.size + 1) :: vs) (Value.ref (hp.objs.size + 1) :: us) := .cons rfl r
  have r2 := hb.rel r1 rz
  have n1 : (Value.ref (hp.objs.size + 1) :: us).length = n + 1 := by
    rw [List.length_cons, ← r.length, l1]
  have few : us.length ≤ sizeLine := by
    rw [← r.length, l1, sizeLine_eq]
    omega
  refine wpAny_call (WkE.callNew PySem.F.excBase_ValueError (fun Y => PySem.HandSPX.refsVE_contains Y bm hbm) (I.kIn _ _ hC) (PySem.W.looks_findIn I.kIn iC) (fun self => PySem.W.bind_fn I.kIn self tI) few ?_)
  refine codeAny_mono (F.run _ X.stack _ _ ⟨Value.ref (hp.objs.size + 1) :: us, ks.zip ws⟩ (g (Value.ref (hp.objs.size + 1) :: us) ws) _ _ (fun _ _ _ => False)
    (hr.make C us (ks.zip ws)) (I2.env0.make C us (ks.zip ws)) (hb.to _ (Value.ref (hp.objs.size + 1) :: us) ws I2.kIn n1 (rz.length.symm.trans l2)) r2 hq) ?_
  intro r s' hq'
  match r, hq' with
  | .error er, hq' => exact hx pins σ _ _ er s' I2 hq'
  | .ok (.ret u), hq' =>
    obtain ⟨v, H3, I3, rv, ev, q3⟩ := I2.after hq'
    subst ev
    exact ⟨rv, V.ref (hp.objs.size + 1), H3, I3, rfl, q3⟩
/-- C(e, ..) -/
theorem pe_mkV (T : OexC X.K C) (iC : PySem.W.findIn X.K (.ref C) "__init__" = some (some (.ref fI))) (tI : PySem.W.typeIn X.K (.ref fI) = some (.type "function"))
    (F : FnOk X.prog X.w X.K X.mg X.base CX k fI fd ps sp) (hr : Room (k + 1) X.A) (hb : KBn X.K fd ps (n + 1) [] g gV) (hx : Passes CX X fun _ _ _ => False) (hn : n ≤ 1000)
    (hg : Gl X x) (hm : X.mg x = some (.ref C)) (ha : PA X (e :: es) t) (hdb : (x == ("__debug__" : Str)) = false := by decide)
    (he : starEach (e :: es) X.env = (false, eval e X.env) :: starEach es X.env := by rfl) (hpl : (backTo pos (starEach es X.env)).any (·.1) = false := by rfl) :
    PE X (.Call (.Name x p) (e :: es) [] pos) (tMkV C n 0 sp gV t tNil) := by
  constructor
  intro pins s σ H Q I h
  refine wpAny_Call_Name_kw (ld_glob I hg hm ?_ hdb)
  refine PySem.W.callWith_K (h₀ := X.base) I.ok.mod.kin T.kC (thn (ha.run pos pins s σ H _ I h) ?_) he hpl
  rintro us s1 ⟨vs, H1, I1, r, l1, l2, q⟩
  exact ⟨I1.kIn, runMkV (ks := []) (ws := []) (zs := []) T iC tI F hr hb hx I1 r .nil l1 rfl hn q⟩
/-- C(k = v, ..) -/
theorem pe_mkVK (T : OexC X.K C) (iC : PySem.W.findIn X.K (.ref C) "__init__" = some (some (.ref fI))) (tI : PySem.W.typeIn X.K (.ref fI) = some (.type "function"))
    (F : FnOk X.prog X.w X.K X.mg X.base CX k fI fd ps sp) (hr : Room (k + 1) X.A) (hb : KBn X.K fd ps 1 ks g gV) (hx : Passes CX X fun _ _ _ => False)
    (hg : Gl X x) (hm : X.mg x = some (.ref C)) (hkw : PK X kws tk) (hall : (backToKw pos (keywordEach kws X.env)).all (·.1.isSome) = true := by rfl)
    (hks : (backToKw pos (keywordEach kws X.env)).filterMap (·.1) = ks := by rfl) (hdb : (x == ("__debug__" : Str)) = false := by decide)
    (hpl : ((backTo pos (starEach [] X.env)).any (·.1) || (backToKw pos (keywordEach kws X.env)).any (·.1.isNone)) = false := by rfl) :
    PE X (.Call (.Name x p) [] kws pos) (tMkV C 0 ks.length sp gV tNil tk) := by
  constructor
  intro pins s σ H Q I h
  refine wpAny_Call_Name_kw (ld_glob I hg hm ?_ hdb)
  refine PySem.W.callWith_KW0 (h₀ := X.base) I.ok.mod.kin T.kC hall (thn (hkw.run pos pins s σ H _ I h) ?_) hpl
  rintro ws s2 ⟨zs, H2, I2, rz, l1, l2, q2⟩
  refine ⟨I2.kIn, ?_⟩
  rw [hks]
  exact runMkV (us := []) (vs := []) T iC tI F hr hb hx I2 .nil rz rfl l2 (Nat.zero_le _) q2
end

/-! ### isinstance of such a value -/
/-- what the class at D says, so that isinstance asks its instances rightly -/
structure IsC (K : PySem.W.Frag) (D : Addr) : Prop where
  cl : (PySem.W.clsIn K D).isSome = true
  ga : PySem.W.findIn K (.ref D) "__getattribute__" = some (some (.builtin "BaseException.__getattribute__"))
  gt : PySem.W.findIn K (.ref D) "__getattr__" = some none
  sub : PySem.W.subIn K (.ref D) (.type "BaseException") = some true
  cls : PySem.W.findIn K (.ref D) "__class__" = some (some (.builtin "object.__class__"))
  get : PySem.W.specialIn K (.builtin "object.__class__") "__get__" = some (some (.builtin "getset_descriptor.__get__"))
  tak : PySem.W.takesIn K (.builtin "object.__class__") = some true
  mro : PySem.W.mroIn K D (.type "object") = some true
/-- isinstance(x, c), x an exception with its dict -/
def rIsX (K : PySem.W.Frag) : List V → Hp → VK → Prop := fun xs H Q => ∃ (a C dx : Addr) (fs : List (Str × V)) (c : V) (u : Value) (b : Bool),
  xs = [.ref a, c] ∧ H a = some (exo a C (some dx)) ∧ H dx = some (exd dx fs) ∧ IsC K C ∧ ClsV c u ∧ PySem.W.kitOne K (.ref C) u = some b ∧ Q (.bl b) H
section
variable {X : Cx}
theorem call_isX : CallR X (.builtin "isinstance") (rIsX X.K) := by
  intro pins s σ H xs us Q I r h
  obtain ⟨a, C, dx, fs, c, u, b, rfl, ea, ed, T, kc, e, q⟩ := h
  obtain ⟨u1, u2, rfl, r1, r2⟩ := vals2 r
  cases kc.eq r2
  cases (show u1 = Value.ref a from r1)
  obtain ⟨t1, ho⟩ := exo_at I.hok ea
  obtain ⟨mA, hns, rel⟩ := exd_at I.hok ed
  obtain ⟨od, hod, _⟩ := lookIn_ns hns
  have J : PySem.W.InstAt s.heap a { cls := .ref C, dict := some dx, data := .fields #[.ref t1, .none, .none, .none, .bool false, .none] } C (some od) := ⟨ho, rfl, rfl, hod⟩
  exact PySem.W.kia_one (PySem.W.kitx_exc T.cl T.ga T.gt T.sub T.cls T.get T.tak T.mro) I.kIn J e (fun z => nomatch z) fun tk => ⟨.bl b, H, I.tok tk, rfl, q⟩
/-- isinstance(x, (c1, ..)), x an exception without a dict -/
def rIsXT (K : PySem.W.Frag) : List V → Hp → VK → Prop := fun xs H Q => ∃ (a C tp : Addr) (cs : List V) (us : List Value) (b : Bool),
  xs = [.ref a, .ref tp] ∧ H a = some (ExO (.ref C) a) ∧ H tp = some (.tup cs) ∧ IsC K C ∧ Paired ClsV cs us ∧ PySem.W.kitAny K (.ref C) us = some b ∧ Q (.bl b) H
theorem call_isXT : CallR X (.builtin "isinstance") (rIsXT X.K) := by
  intro pins s σ H xs us Q I r h
  obtain ⟨a, C, tp, cs, ws, b, rfl, ea, hT, T, kc, e, q⟩ := h
  obtain ⟨u1, u2, rfl, r1, r2⟩ := vals2 r
  cases (show u1 = Value.ref a from r1)
  cases (show u2 = Value.ref tp from r2)
  obtain ⟨⟨oe, vs, ho, hz, hd, _⟩, _, _⟩ := I.hok a _ ea
  obtain ⟨_, its, rv, o, h1, h2, n, h3⟩ := (show ObjOk X.prog X.w H s.heap tp (.tup cs) from I.hok tp _ hT)
  cases ClsV.all kc rv
  obtain ⟨oc, od, dt, sl⟩ := o
  simp only at h2 h3
  subst h2 h3
  have J : PySem.W.InstAt s.heap a oe C none := ⟨ho, hz.1, by unfold PySem.W.notCls; rw [hd] <;> rfl, by rw [hz.2]; exact trivial⟩
  exact PySem.W.kia_tup (PySem.W.kitx_exc T.cl T.ga T.gt T.sub T.cls T.get T.tak T.mro) I.kIn J h1 e (fun z => nomatch z) fun tk => ⟨.bl b, H, I.tok tk, rfl, q⟩
end

/-! ### a field of such a value -/
def tXv (K : PySem.W.Frag) (f : Str) (te : TE) : TE := fun σ H Q => te σ H fun x H1 => ∃ (a C dx : Addr) (fs : List (Str × V)) (v : V), x = .ref a ∧ XfC K C ∧ PySem.W.findIn K (.ref C) f = some none ∧
  H1 a = some (exo a C (some dx)) ∧ H1 dx = some (exd dx fs) ∧ fs.lookup f = some v ∧ Q v H1
theorem pe_xv {X : Cx} {e : Expr} {te : TE} {pos : Pos} {f : Str} (he : PE X e te) (hb : attributeBase e f X.env (eval e X.env) = eval e X.env := by rfl) : PE X (.Attribute e f pos) (tXv X.K f te) := by
  constructor
  intro pins s σ H Q I h
  refine attr_of hb (thn (he.run pins s σ H _ I h) ?_)
  rintro u s1 ⟨x, H1, I1, rx, a, C, dx, fs, v, rfl, T, no, ea, ed, l, q⟩
  cases (show u = Value.ref a from rx)
  obtain ⟨t1, ho⟩ := exo_at I1.hok ea
  obtain ⟨mA, hns, rel⟩ := exd_at I1.hok ed
  obtain ⟨od, hod, hl⟩ := lookIn_ns hns
  obtain ⟨u, hu, ru⟩ := RelO.some_of (v := v) (o := mA f) (by rw [← l]; exact rel f)
  have J : PySem.W.InstAt s1.heap a { cls := .ref C, dict := some dx, data := .fields #[.ref t1, .none, .none, .none, .bool false, .none] } C (some od) := ⟨ho, rfl, rfl, hod⟩
  exact HandSPX.exc_get I1.kIn J T.ga T.gg T.exC (PySem.W.findObj_own T.hdC no rfl (by rw [hl, hu])) (handed_of ru) ⟨v, H1, I1.tok _, ru, q⟩

/-! ### C(), an exception class without an own __init__ -/
theorem pe_exc0 {X : Cx} {C : Addr} {bmB : List Value} {B newId initId : String} {x : Str} {p pos : Pos} (F : ExcBaseFacts B newId initId bmB) (q : PySem.W.excIn X.K C bmB newId = true) (gC : X.mg x = some (.ref C))
    (kC : PySem.W.keepIn X.K (.ref C) = true) (hg : Gl X x) (hdb : (x == ("__debug__" : Str)) = false := by decide) :
    PE X (.Call (.Name x p) [] [] pos) (fun σ H Q => ∀ a, H a = none → Q (.ref a) (upd H a (ExO (.ref C) a))) := by
  constructor
  intro pins s σ H Q I h
  refine wpAny_Call_Name_kw (ld_glob I hg gC ?_ hdb)
  refine PySem.W.callWith_K0 I.kIn kC ?_
  obtain ⟨bm, N, nm, qn, bs, hdct, sn, sub, ab, col, dd, k0, k1, k2, k3, k5, mN, hC, hN, hni, T⟩ := exc_obj I.kIn q
  refine wpAny_call_exc_subT F T hC hN hni (fun h' a hm => ?_) (by show 0 ≤ sizeLine; exact Nat.zero_le _)
  have free : H a = none := I.hok.gone hm.new
  obtain ⟨t, ht, _, _⟩ := hm.there
  exact ⟨.ref a, upd H a (ExO (.ref C) a), I.laidN hm.keeps hm.new free (exO_ok ht ⟨rfl, rfl⟩ rfl rfl rfl (show 4 < 6 by decide)), rfl, h a free⟩

/-! ### repr of data -/
/-- repr(x), x data: its text. No repr is under way -/
def rRepr (K : PySem.W.Frag) : List V → Hp → VK → Prop := fun xs H Q => ∃ (x : V) (d : PyData), xs = [x] ∧ Dp K H x d ∧ d.showable = true ∧ d.hasDict = false ∧ d.depth ≤ 60 ∧ (d.shown.length ≤ sizeLine ∨ ∃ i, d = .int i) ∧ Q (.str d.shown) H
theorem call_repr {X : Cx} (gd : X.A.guards = some []) (hu : X.A.units + 64 < cLine) : CallR X (.builtin "repr") (rRepr X.K) := by
  intro pins s σ H xs us Q I r h
  obtain ⟨x, d, rfl, dp, sh, nd, dep, sz, q⟩ := h
  obtain ⟨u, rfl, rx⟩ := vals1 r
  obtain ⟨as, rd⟩ := Dp.reads I d x u dp rx
  cases dp with
  | non =>
    cases rx
    exact PySem.P.repr_of_none ⟨.str _, H, I.tok _, ⟨_, rfl⟩, q⟩
  | bl b =>
    cases rx
    exact PySem.P.repr_of_bool ⟨.str _, H, I.tok _, ⟨_, rfl⟩, q⟩
  | int i =>
    obtain ⟨t, rfl⟩ := rx
    exact PySem.P.repr_of_int (by simpa [PyData.showable] using sh) ⟨.str _, H, I.tok _, ⟨_, rfl⟩, q⟩
  | str z =>
    obtain ⟨t, rfl⟩ := rx
    exact PySem.P.repr_of_str ⟨.str _, H, I.tok _, ⟨_, rfl⟩, q⟩ (sz.elim id fun ⟨_, e⟩ => nomatch e)
  | lst _ _ =>
    cases rx
    exact repr_of_reads' rd sh (PyData.noDict_hsm nd) gd (by omega) (fun _ _ e => e) (fun h' u tk hk => ⟨.str _, H, I.kept hk, ⟨_, rfl⟩, q⟩) (sz.elim id fun ⟨_, e⟩ => nomatch e)
  | tup _ _ =>
    cases rx
    exact repr_of_reads' rd sh (PyData.noDict_hsm nd) gd (by omega) (fun _ _ e => e) (fun h' u tk hk => ⟨.str _, H, I.kept hk, ⟨_, rfl⟩, q⟩) (sz.elim id fun ⟨_, e⟩ => nomatch e)
end Wk
set_option Elab.async false
set_option linter.all false
set_option maxRecDepth 100000
set_option maxHeartbeats 4000000
/-! try .. except X as n, where the suite keeps the error for later: behind the suite it is tracked; isinstance of such an error, its fields. -/
namespace Wk
open PySem PySem.Spec PyProof.Rows L2
/-- an error that has been caught: its class, its own dict -/
def ExH (cls : Value) (d : Option Addr) (a : Addr) : HO := .ext fun h => ∃ (oe : Obj) (vs : Array Value), h.get? a = some oe ∧ Zc cls d oe ∧ oe.data = .fields vs
theorem exH_ok {P : Program} {w : World} {H : Hp} {h : Heap} {a : Addr} {cls : Value} {d : Option Addr} {oe : Obj} {vs : Array Value} (e : h.get? a = some oe) (z : Zc cls d oe) (dd : oe.data = .fields vs) : ObjOk P w H h a (ExH cls d a) :=
  ⟨⟨oe, vs, e, z, dd⟩, ⟨oe, e⟩, fun _ _ ⟨o, v, q, r⟩ k => ⟨o, v, k o q, r⟩⟩
section
variable {X : Cx} {pins : List (Addr × Obj)} {σ : L2.St} {H : Hp} {s : Shared}
/-- an object that came behind the entry is tracked from now on -/
theorem track {a : Addr} {o : HO} (I : L2.Inv X pins σ H s) (free : H a = none) (late : ∀ b u, X.s_0.heap.get? b = some u → b ≠ a) (nL : a ≠ X.env.locals) (nC : ∀ x c, X.env.cells.lookup x = some c → c ≠ a)
    (nP : ∀ p ∈ X.pn ++ pins, p.1 ≠ a) (new : ObjOk X.prog X.w (upd H a o) s.heap a o) : L2.Inv X pins σ (upd H a o) s where
  ok := I.ok
  os := I.os
  bare := I.bare
  base := {
    keep := I.base.keep
    slot := I.base.slot
    free := fun b u e n hx => by
      rw [upd_ne (late b u e)]
      exact I.base.free b u e n hx
    there := I.base.there
    tups := fun b xs e => by
      have z := I.base.tups b xs e
      rw [upd_ne (ne_of_none z free)]
      exact z
    frzs := fun b u v e => by
      have z := I.base.frzs b u v e
      rw [upd_ne (ne_of_none z free)]
      exact z
    tbls := fun b ps e => by
      obtain ⟨m, z⟩ := I.base.tbls b ps e
      exact ⟨m, by rw [upd_ne (ne_of_none z free)]; exact z⟩ }
  loc := I.loc
  cell := I.cell
  free := by
    rw [upd_ne (Ne.symm nL)]
    exact I.free
  freeC := fun x c e => by
    rw [upd_ne (nC x c e)]
    exact I.freeC x c e
  pin := fun p hp => by
    obtain ⟨e, n, r⟩ := I.pin p hp
    exact ⟨e, by rw [upd_ne (nP p hp)]; exact n, r⟩
  hok := fun b u e => by
    by_cases hb : b = a
    · subst hb
      rw [upd_same] at e
      cases e
      exact new
    · rw [upd_ne hb] at e
      refine (I.hok b u e).stay (fun _ _ _ q => q) (fun c q => ?_) (fun c xs q => ?_)
      · rw [upd_ne (ne_of_none q free)]
        exact q
      · rw [upd_ne (ne_of_none q free)]
        exact q
  len := I.len
end
/-- what the clause wishes: its suite, with the error in slot i; behind the suite the error stands in the heap -/
def wKeep (K : PySem.W.Frag) (c : Value) (i : Nat) (ts : Addr → Value → Option Addr → TS) (Wout : WX) (D : Ends) : WX := fun cls d σ H =>
  ∃ b, PySem.W.exmOne K cls c = some b ∧
    (b = true → ∀ a, H a = none → ts a cls d { nx := fun τ G => D.nx (τ.set i none) (upd G a (ExH cls d a)), rt := D.rt, bk := fun τ G => D.bk (τ.set i none) (upd G a (ExH cls d a)), ct := fun τ G => D.ct (τ.set i none) (upd G a (ExH cls d a)) } (σ.set i (some (.ref a))) H) ∧
    (b = false → Wout cls d σ H)
section
variable {X : Cx} {x n : Str} {c : Value} {i : Nat} {body suite : List Stmt} {b0 : Stmt} {np pos pos' : Pos} {tb : WX → TS} {ts : Addr → Value → Option Addr → TS} {Wout : WX}
theorem ps_try_keep (hs : X.stack = X.env :: X.outer) (hf : X.env.frame = some X.env.locals) (hex : X.ex = []) (hN : X.N.Nodup) (hi : X.N[i]? = some n) (hln : X.env.kindOf n = some .local) (hc : Names X x c) (tk : Takes X Wout)
    (hb : ∀ (W : WX) (pn : List (Addr × Obj)) (xe : Value → Shared → Prop), Takes (X.tr pn xe) W → PassesOwn (model X.prog X.w) X.A X.env xe → PSs (X.tr pn xe) body (tb W))
    (hsu : ∀ (a : Addr) (oe : Obj) (cls : Value) (d : Option Addr) (pn : List (Addr × Obj)), Zc cls d oe → (∃ vs, oe.data = .fields vs) → PSs (X.suite a ((a, oe) :: pn)) (b0 :: suite) (ts a cls d)) :
    PS X (.Try body [.ExceptHandler (some (.Name x np)) (some n) (b0 :: suite) pos'] [] [] pos) (fun D σ H => tb (wKeep X.K c i ts Wout D) D σ H) := by
  constructor
  intro pins s σ H D I h
  have ok := I.ok
  have frames : X.A.frames = some (X.env :: X.outer) := by rw [ok.frames, hs]
  refine wpAny_Try_except ?_
  let after : Value → Shared → Prop := fun e s₁ => wpAny (model X.prog X.w) X.A (noteFrame e X.env) (fun _ s₂ => wpAny (model X.prog X.w) X.A (setFlight e none)
    (fun _ s₃ => wpAny (model X.prog X.w) X.A (handleBy e X.env [.ExceptHandler (some (.Name x np)) (some n) (b0 :: suite) pos']) (SP X pins D) X.xe s₃) X.xe s₂) X.xe s₁
  have catch_ : Takes (X.tr (X.pn ++ pins) after) (wKeep X.K c i ts Wout D) := by
    rintro u s' ⟨a, B, sI, pins', σ', H', cls, d, rfl, J', nb, up, sky, na, os, ag, b, hb1, yes, no⟩
    have J : L2.Inv X pins σ' H' sI := J'.ofTry ok
    have sky' : Sky B (X.env :: X.outer) a (Zc cls d) X.env.locals s'.heap := by rw [← hs]; exact sky
    show wpAny (model X.prog X.w) X.A (noteFrame (.ref a) X.env) _ _ _
    refine Sky.land Zc.steady frames hf sky' fun h3 fl3 up3 => ?_
    have J3 : L2.Inv X pins σ' H' { s' with heap := h3 } := J.landed nb fl3.1 (up.trans up3) os ag
    obtain ⟨oe3, vs3, he3, hz3, hd3⟩ := fl3.there
    have noB : B.get? a = none := fl3.2.1
    have nfr : a ∉ frs (X.env :: X.outer) := by
      intro hm
      obtain ⟨_, o', e', hnf⟩ := fl3.2.2.1.mem hm
      rw [he3] at e'
      cases e'
      exact hnf _ hd3
    have nL : a ≠ X.env.locals := fun z => nfr (List.mem_filterMap.mpr ⟨X.env, List.mem_cons_self, by rw [hf, z]⟩)
    have nF : a ∉ X.fs := by
      intro hm
      obtain ⟨e, he, q⟩ := List.mem_filterMap.mp hm
      exact nfr (List.mem_filterMap.mpr ⟨e, List.mem_cons_of_mem _ he, q⟩)
    -- what stood at the entry, the pins, the cells: none of them is the error
    have late : ∀ b u, X.s_0.heap.get? b = some u → b ≠ a := by
      intro b u e z
      by_cases hm : b ∈ frs (X.env :: X.outer)
      · exact nfr (z ▸ hm)
      · obtain ⟨o', e'⟩ := J.base.there b u e (by rw [hex]; exact List.not_mem_nil)
        have q := nb b o' e' (by rw [hs]; exact hm)
        rw [z, noB] at q
        cases q
    have pinsA : ∀ p ∈ X.pn ++ pins, p.1 ≠ a := by
      intro p hp z
      obtain ⟨e, _, ne, nf, _⟩ := J.pin p hp
      have hm : p.1 ∉ frs (X.env :: X.outer) := by rw [z]; exact nfr
      have q := nb p.1 p.2 e (by rw [hs]; exact hm)
      rw [z, noB] at q
      cases q
    have S3 := J3.suite he3 hd3 na nL nF
    refine wpAny_handleBy_cons (codeAny_handlers_test ?_) (by intro q; cases q)
    have tyA : PySem.W.Looks (model X.prog X.w) h3 (typeOf (.ref a)) cls := fun A Q E s k q => wpAny_typeOf_ref (k _ _ he3) (by rw [hz3.1]; exact q)
    have meets := PySem.W.exm_one (M := model X.prog X.w) (J3.kIn) tyA hb1
    have asked : ∀ {Q : Value → Shared → Prop} {E : Value → Shared → Prop}, Q c { s' with heap := h3 } → wpAny (model X.prog X.w) (X.A.mark (some (.ref a))) (eval (.Name x np) X.env) Q E { s' with heap := h3 } := by
      intro Q E q
      obtain ⟨hg, hdbg, hm | ⟨hm, hv, hnn⟩⟩ := hc
      · exact ld_glob (X := X.suite a ((a, oe3) :: (X.pn ++ pins))) S3 hg hm q hdbg
      · exact ld_blt (X := X.suite a ((a, oe3) :: (X.pn ++ pins))) S3 hg hm hv q hnn hdbg
    refine asked (meets.here ?_)
    cases b with
    | true =>
      refine codeAny_handlers_suite_as (HandSPX.lands_againZ fl3 fun h4 fl4 up4 => ?_)
      have J4 : L2.Inv X pins σ' H' { s' with heap := h4 } := J.landed nb fl4.1 ((up.trans up3).trans up4) os ag
      obtain ⟨oe4, vs4, he4, hz4, hd4⟩ := fl4.there
      have S4 := J4.suite he4 hd4 na nL nF
      refine store_ok (X := X.suite a ((a, oe4) :: (X.pn ++ pins))) (v := .ref a) S4 hN hi (.inl hln) rfl (fun s5 S5 => ?_) (.inr hln)
      refine wpAny_mono ((hsu a oe4 cls d (X.pn ++ pins) hz4 ⟨_, hd4⟩).run [] s5 _ H' _ S5 (yes rfl a na)) ?_ (fun _ _ z => z.elim)
      intro f s6 hsp
      have leave : ∀ {σ6 : L2.St} {H6 : Hp} {Q : Shared → Prop}, L2.Inv (X.suite a ((a, oe4) :: (X.pn ++ pins))) [] σ6 H6 s6 →
          (∀ s7, L2.Inv X pins (σ6.set i none) H6 s7 → L2.Inv X pins (σ6.set i none) (upd H6 a (ExH cls d a)) s7 → Q s7) →
          wpAny (model X.prog X.w) X.A (do bindName X.env n .none; unbindBehindTheSuite X.env n pos') (fun _ s7 => Q s7) X.xe s6 := by
        intro σ6 H6 Q S6 hq
        obtain ⟨ga, fa, _⟩ := S6.pin (a, oe4) (List.mem_append_left _ List.mem_cons_self)
        have J6 : L2.Inv X ((a, oe4) :: pins) σ6 H6 s6 := (S6.unsuite ok).pins_of (pins' := (a, oe4) :: pins) fun p hp =>
          S6.pin p (List.mem_append_left _ (by
            rcases List.mem_cons.mp hp with e | e
            · rw [e]; exact List.mem_cons_self
            · exact List.mem_cons_of_mem _ (List.mem_append_right _ e)))
        refine gone_ok J6 hN hi hln fun s7 J7 => ?_
        obtain ⟨g7, f7, _, _, dc⟩ := J7.pin (a, oe4) (List.mem_append_right _ List.mem_cons_self)
        have K7 : L2.Inv X pins (σ6.set i none) H6 s7 := J7.pins_of fun p hp => J7.pin p (List.mem_append_right _ (List.mem_cons_of_mem _ hp))
        refine hq s7 K7 (track K7 f7 late nL ?_ pinsA (exH_ok g7 hz4 hd4))
        intro y cc e z
        obtain ⟨v, o, ho, hd⟩ := K7.cell y cc e
        rw [z, g7] at ho
        cases ho
        exact dc v hd
      cases f with
      | next =>
        obtain ⟨σ6, H6, S6, q6⟩ := hsp
        exact leave S6 fun s7 _ J7 => ⟨_, _, J7, q6⟩
      | brk =>
        obtain ⟨σ6, H6, S6, q6⟩ := hsp
        exact leave S6 fun s7 _ J7 => ⟨_, _, J7, q6⟩
      | cont =>
        obtain ⟨σ6, H6, S6, q6⟩ := hsp
        exact leave S6 fun s7 _ J7 => ⟨_, _, J7, q6⟩
      | ret u =>
        obtain ⟨v6, σ6, H6, S6, r6, q6⟩ := hsp
        exact leave S6 fun s7 J7 _ => ⟨_, _, _, J7, r6, q6⟩
    | false =>
      show wpAny _ X.A (handleBy (.ref a) X.env []) _ _ _
      refine wpAny_handleBy_nil ?_
      obtain ⟨k1, k2, k3, oe, vs, T, oT, tt, he, hz, hd, h1, hr⟩ := id fl3
      unfold PySem.passOn
      refine wpAny_bind (wpAny_field he hd h1 ?_)
      rw [if_neg (show ¬ ((Value.ref T == Value.none) = true) from by simp)]
      have fin : wpAny (model X.prog X.w) X.A (setFlight (.ref a) X.env.frame) (fun _ s4 => wpAny (model X.prog X.w) X.A (throw (.ref a) : Sem Flow) (SP X pins D) X.xe s4) X.xe { s' with heap := h3 } := by
        rw [hf]
        refine HandSPX.setFlight_upZ fl3 fun h4 fl4 up4 => wpAny_throw (tk _ _ ?_)
        exact ⟨a, B, sI, pins, σ', H', cls, d, rfl, J, nb, (up.trans up3).trans up4, .inr (.inr (by rw [hs]; exact fl4)), na, os, ag, no rfl⟩
      first
        | exact wpAny_bind (wpAny_pure (wpAny_bind fin))
        | exact wpAny_bind fin
  refine wpAny_mono ((hb (wKeep X.K c i ts Wout D) (X.pn ++ pins) after catch_ PassesOwn.looking).run [] s σ H D (I.toTry _) h) ?_ (fun e s1 he => he)
  intro f s1 hsp
  cases f with
  | next =>
    obtain ⟨σ', H', J', q⟩ := hsp
    exact wpAny_execs_nil ⟨σ', H', J'.ofTry ok, q⟩
  | brk =>
    obtain ⟨σ', H', J', q⟩ := hsp
    exact ⟨σ', H', J'.ofTry ok, q⟩
  | cont =>
    obtain ⟨σ', H', J', q⟩ := hsp
    exact ⟨σ', H', J'.ofTry ok, q⟩
  | ret u =>
    obtain ⟨v, σ', H', J', r, q⟩ := hsp
    exact ⟨v, σ', H', J'.ofTry ok, r, q⟩
end
/-! ### isinstance of a caught error, its fields -/
def rIsH (K : PySem.W.Frag) : List V → Hp → VK → Prop := fun xs H Q => ∃ (a C dx : Addr) (fs : List (Str × V)) (c : V) (u : Value) (b : Bool),
  xs = [.ref a, c] ∧ H a = some (ExH (.ref C) (some dx) a) ∧ H dx = some (.xd fs) ∧ IsC K C ∧ ClsV c u ∧ PySem.W.kitOne K (.ref C) u = some b ∧ Q (.bl b) H
section
variable {X : Cx}
theorem held_at {pins : List (Addr × Obj)} {σ : L2.St} {H : Hp} {s : Shared} {a C dx : Addr} {fs : List (Str × V)} (I : L2.Inv X pins σ H s) (ea : H a = some (ExH (.ref C) (some dx) a)) (ed : H dx = some (.xd fs)) :
    ∃ (oe : Obj) (od : Obj) (mA : Str → Option Value), PySem.W.InstAt s.heap a oe C (some od) ∧ (∀ name, PySem.W.lookIn name od = some (mA name)) ∧ ∀ f, RelO (fs.lookup f) (mA f) := by
  obtain ⟨⟨oe, vs, ho, hz, hd⟩, _, _⟩ := (show ObjOk X.prog X.w H s.heap a (ExH (.ref C) (some dx) a) from I.hok a _ ea)
  obtain ⟨mA, hns, rel⟩ := (show ObjOk X.prog X.w H s.heap dx (.xd fs) from I.hok dx _ ed)
  obtain ⟨od, hod, hl⟩ := lookIn_ns hns
  exact ⟨oe, od, mA, ⟨ho, hz.1, by unfold PySem.W.notCls; rw [hd] <;> rfl, by rw [hz.2]; exact hod⟩, hl, rel⟩
theorem call_isH : CallR X (.builtin "isinstance") (rIsH X.K) := by
  intro pins s σ H xs us Q I r h
  obtain ⟨a, C, dx, fs, c, u, b, rfl, ea, ed, T, kc, e, q⟩ := h
  obtain ⟨u1, u2, rfl, r1, r2⟩ := vals2 r
  cases kc.eq r2
  cases (show u1 = Value.ref a from r1)
  obtain ⟨oe, od, mA, J, _, _⟩ := held_at I ea ed
  exact PySem.W.kia_one (PySem.W.kitx_exc T.cl T.ga T.gt T.sub T.cls T.get T.tak T.mro) I.kIn J e (fun z => nomatch z) fun tk => ⟨.bl b, H, I.tok tk, rfl, q⟩
def tXh (K : PySem.W.Frag) (f : Str) (te : TE) : TE := fun σ H Q => te σ H fun x H1 => ∃ (a C dx : Addr) (fs : List (Str × V)) (v : V), x = .ref a ∧ XfC K C ∧ PySem.W.findIn K (.ref C) f = some none ∧
  H1 a = some (ExH (.ref C) (some dx) a) ∧ H1 dx = some (.xd fs) ∧ fs.lookup f = some v ∧ Q v H1
theorem pe_xh {e : Expr} {te : TE} {pos : Pos} {f : Str} (he : PE X e te) (hb : attributeBase e f X.env (eval e X.env) = eval e X.env := by rfl) : PE X (.Attribute e f pos) (tXh X.K f te) := by
  constructor
  intro pins s σ H Q I h
  refine attr_of hb (thn (he.run pins s σ H _ I h) ?_)
  rintro u s1 ⟨x, H1, I1, rx, a, C, dx, fs, v, rfl, T, no, ea, ed, l, q⟩
  cases (show u = Value.ref a from rx)
  obtain ⟨oe, od, mA, J, hl, rel⟩ := held_at I1 ea ed
  obtain ⟨u, hu, ru⟩ := RelO.some_of (v := v) (o := mA f) (by rw [← l]; exact rel f)
  exact HandSPX.exc_get I1.kIn J T.ga T.gg T.exC (PySem.W.findObj_own T.hdC no rfl (by rw [hl, hu])) (handed_of ru) ⟨v, H1, I1.tok _, ru, q⟩
end
end Wk
set_option Elab.async false
set_option linter.all false
set_option maxRecDepth 100000
set_option maxHeartbeats 4000000
/-! Error classes with def __init__(self, value): self.value = value, and what the top has left of them and of the module's defs. -/
namespace Wk
open PySem L2
def spInit (C : Addr) : Sp := fun vs H Q _ => ∃ (a : Addr) (v : V), vs = [.ref a, v] ∧ H a = some (exo a C none) ∧
  ∀ dx, H dx = none → dx ≠ a → Q .non (upd (upd H dx (exd dx [("value", v)])) a (exo a C (some dx)))
structure ClsT (K : PySem.W.Frag) (mg : Str → Option Value) (x : Str) (C fI : Addr) : Prop where
  g : mg x = some (.ref C)
  oex : OexC K C
  ini : PySem.W.findIn K (.ref C) "__init__" = some (some (.ref fI))
  ty : PySem.W.typeIn K (.ref fI) = some (.type "function")
  nov : PySem.W.findIn K (.ref C) "value" = some none
  isc : IsC K C
  xf : XfC K C
section
variable {P : Program} {w : World} {K : PySem.W.Frag} {mg : Str → Option Value} {base : Heap}
theorem ok_init {qual : Str} {st : Stmt} {f fI C : Addr} {fd : FuncData} {x : Str} (F : Fun K "__init__" qual st f fd) (S : FnScope ["self", "value"] ["self", "value"] (defScope st))
    (hb : ∃ q1 q2 q3 q4, defBody st = [.Assign [.Attribute (.Name "self" q1) "value" q2] (.Name "value" q3) q4])
    (hv : (defScope st).names = ([("self", .local), ("value", .local)] : List (Str × NameKind))) (T : ClsT K mg x C fI) : FnOk P w K mg base CX0 1 f fd ["self", "value"] (spInit C) := by
  obtain ⟨q1, q2, q3, q4, hb⟩ := hb
  refine F.ok S (fun vs H Q E h => ?_) (fun cdv A outer s H vs Q E hr h => ?_)
  · obtain ⟨a, v, rfl, _⟩ := h
    rfl
  · obtain ⟨a, v, rfl, ha, k⟩ := h
    rw [hb]
    refine ⟨_, pss_one (ps_ost (pe_var (i := 0) rfl ?_) (pe_var (i := 1) rfl ?_)), ?_⟩
    · left
      show (defScope st).names.lookup ("self" : Str) = some .local
      rw [hv]
      decide +kernel
    · left
      show (defScope st).names.lookup ("value" : Str) = some .local
      rw [hv]
      decide +kernel
    · exact ⟨_, rfl, _, rfl, a, C, rfl, T.oex, T.nov, .inl ⟨ha, fun dx n ne => k dx n ne⟩⟩
/-- one class with its __init__, as a caller needs it -/
structure ClsF (P : Program) (w : World) (K : PySem.W.Frag) (mg : Str → Option Value) (base : Heap) (x : Str) (C fI : Addr) (fd : FuncData) : Prop where
  t : ClsT K mg x C fI
  ok : FnOk P w K mg base CX0 1 fI fd ["self", "value"] (spInit C)
  b : Binds K fd ["self", "value"] []
/-- raise X(e) -/
theorem ps_raiseV {X : Cx} {W : WX} {x : Str} {C fI : Addr} {fd : FuncData} {e : Expr} {te : TE} {p pos pos2 : Pos} (F : ClsF X.prog X.w X.K X.mg X.base x C fI fd) (hr : Room 2 X.A) (hc : X.calm = true) (tk : Takes X W) (hg : Gl X x) (he : PE X e te)
    (hdb : (x == ("__debug__" : Str)) = false := by decide) (hs : starEach (e :: []) X.env = (false, eval e X.env) :: starEach [] X.env := by rfl) :
    PS X (.Raise (some (.Call (.Name x p) [e] [] pos)) none pos2) (fun _ σ H => tMkO C (spInit C) [] (tCons te tNil) σ H fun cls d H' => W cls d σ H') :=
  ps_raise hc tk (pmk_oex F.t.oex F.t.ini F.t.ty F.ok hr F.b .nil pass0 hg F.t.g (pa_cons he pa_nil hs) hdb hs)
/-- its reading: the error with a new dict that holds the value -/
theorem mk_read {C : Addr} {v : V} {H : Hp} {Q : XK} (k : ∀ d H', H d = none → Same H H' → H' d = some (.xd [("value", v)]) → Q (.ref C) (some d) H') :
    ([v] : List V).length ≤ 1000 ∧ ∀ a, H a = none → spInit C (.ref a :: ([v] ++ [])) (upd H a (exo a C none))
      (fun z H2 => z = .non ∧ ∃ (d : Addr) (fs : List (Str × V)), H2 a = some (exo a C (some d)) ∧ H2 d = some (exd d fs) ∧ H d = none ∧ Q (.ref C) (some d) (upd (del H2 a) d (.xd fs))) (fun _ _ _ => False) := by
  refine ⟨by show 1 ≤ 1000; decide, fun a na => ⟨a, v, rfl, upd_same, fun dx nx ne => ⟨rfl, dx, _, upd_same, by rw [upd_ne ne, upd_same], ?_, ?_⟩⟩⟩
  · rw [upd_ne ne] at nx
    exact nx
  · rw [upd_ne ne] at nx
    refine k dx _ nx (fun b o e => ?_) upd_same
    have ba : b ≠ a := ne_of_none e na
    have bx : b ≠ dx := ne_of_none e nx
    rw [upd_ne bx, del_ne ba, upd_ne ba, upd_ne bx, upd_ne ba]
    exact e
end
/-! ### what the top has written -/
def DefAt (K : PySem.W.Frag) (x : Str) (st : Stmt) (f : Addr) : Prop := PySem.W.nsIn K mainGlobals x = some (some (.ref f)) ∧
  (∃ (oc : Value) (od : Option Addr) (kV doc pm : Value) (an : Option Addr) (cdv ct : Value) (osl : Array (Option Value)),
    K.lookup f = some ⟨oc, od, .func (PySem.W.fnOf x x (defArgs st) (defBody st) (defScope st) .none kV doc pm an cdv ct), osl⟩ ∧ PySem.W.codeIn K cdv x = true) ∧ PySem.W.keepIn K (.ref f) = true
theorem def_at {K : PySem.W.Frag} {x : Str} {st : Stmt} {f : Addr} {oc : Value} {od : Option Addr} {kV doc pm : Value} {an : Option Addr} {cdv ct : Value} {osl : Array (Option Value)} (a : PySem.W.nsIn K mainGlobals x = some (some (.ref f)))
    (l : K.lookup f = some ⟨oc, od, .func (PySem.W.fnOf x x (defArgs st) (defBody st) (defScope st) .none kV doc pm an cdv ct), osl⟩) (c : PySem.W.codeIn K cdv x = true) (k : PySem.W.keepIn K (.ref f) = true) : DefAt K x st f :=
  ⟨a, ⟨_, _, _, _, _, _, _, _, _, l, c⟩, k⟩
structure ClsAt (K : PySem.W.Frag) (x q : Str) (st : Stmt) (C fI : Addr) : Prop where
  ns : PySem.W.nsIn K mainGlobals x = some (some (.ref C))
  obj : ∃ nm qn N bs bm sn sub ab col dd k0 k1 k2 k3 k5, K.lookup C = some (excClassObj nm qn C N bs bm true sn sub ab col dd k0 k1 k2 k3 k5 "ValueError.__new__") ∧ PySem.HandSPX.refsVE bm = true
  ini : PySem.W.findIn K (.ref C) "__init__" = some (some (.ref fI))
  ty : PySem.W.typeIn K (.ref fI) = some (.type "function")
  fn : ∃ (oc : Value) (od : Option Addr) (kV doc pm : Value) (an : Option Addr) (cdv ct : Value) (osl : Array (Option Value)),
    K.lookup fI = some ⟨oc, od, .func (PySem.W.fnOf "__init__" q (defArgs st) (defBody st) (defScope st) .none kV doc pm an cdv ct), osl⟩ ∧ PySem.W.codeIn K cdv q = true
  kI : PySem.W.keepIn K (.ref fI) = true
  sa : PySem.W.findIn K (.ref C) "__setattr__" = some (some (.builtin "object.__setattr__"))
  tyC : PySem.W.typeIn K (.ref C) = some (.type "type")
  kC : PySem.W.keepIn K (.ref C) = true
  hd : PySem.W.hasDictIn K C = true
  nv : PySem.W.findIn K (.ref C) "value" = some none
  is : IsC K C
theorem cls_at {K : PySem.W.Frag} {x q : Str} {st : Stmt} {C fI : Addr} {oc : Value} {od : Option Addr} {kV doc pm : Value} {an : Option Addr} {cdv ct : Value} {osl : Array (Option Value)}
    {nm qn : Str} {N : Addr} {bs bm : List Value} {sn : List Str} {sub : List Value} {ab : Bool} {col : Option Bool} {dd : Option Addr} {k0 k1 k2 k3 k5 : Option Value}
    (a : PySem.W.nsIn K mainGlobals x = some (some (.ref C))) (ob : K.lookup C = some (excClassObj nm qn C N bs bm true sn sub ab col dd k0 k1 k2 k3 k5 "ValueError.__new__")) (ve : PySem.HandSPX.refsVE bm = true)
    (ini : PySem.W.findIn K (.ref C) "__init__" = some (some (.ref fI))) (ty : PySem.W.typeIn K (.ref fI) = some (.type "function"))
    (l : K.lookup fI = some ⟨oc, od, .func (PySem.W.fnOf "__init__" q (defArgs st) (defBody st) (defScope st) .none kV doc pm an cdv ct), osl⟩) (co : PySem.W.codeIn K cdv q = true) (kI : PySem.W.keepIn K (.ref fI) = true)
    (sa : PySem.W.findIn K (.ref C) "__setattr__" = some (some (.builtin "object.__setattr__"))) (tyC : PySem.W.typeIn K (.ref C) = some (.type "type")) (kC : PySem.W.keepIn K (.ref C) = true) (hd : PySem.W.hasDictIn K C = true)
    (nv : PySem.W.findIn K (.ref C) "value" = some none) (is : IsC K C) : ClsAt K x q st C fI :=
  ⟨a, ⟨_, _, _, _, _, _, _, _, _, _, _, _, _, _, _, ob, ve⟩, ini, ty, ⟨_, _, _, _, _, _, _, _, _, l, co⟩, kI, sa, tyC, kC, hd, nv, is⟩
theorem ClsAt.t {K : PySem.W.Frag} {mg : Str → Option Value} {h : Heap} {x q : Str} {st : Stmt} {C fI : Addr} (A : ClsAt K x q st C fI) (X : K.In h) (G : h.Ns mainGlobals mg) : ClsT K mg x C fI where
  g := PySem.W.mg_of X G A.ns
  oex := ⟨A.obj, A.sa, A.is.sub, A.tyC, A.kC⟩
  ini := A.ini
  ty := A.ty
  nov := A.nv
  isc := A.is
  xf := ⟨A.is.ga, A.is.gt, A.is.sub, A.hd⟩
theorem ClsAt.f {P : Program} {w : World} {K : PySem.W.Frag} {mg : Str → Option Value} {h base : Heap} {x q : Str} {st : Stmt} {C fI : Addr} (A : ClsAt K x q st C fI) (X : K.In h) (G : h.Ns mainGlobals mg)
    (S : FnScope ["self", "value"] ["self", "value"] (defScope st)) (hb : ∃ q1 q2 q3 q4, defBody st = [.Assign [.Attribute (.Name "self" q1) "value" q2] (.Name "value" q3) q4])
    (hv : (defScope st).names = ([("self", .local), ("value", .local)] : List (Str × NameKind)))
    (b2 : ∀ (kV doc pm : Value) (an : Option Addr) (cdv ct : Value) (us : List Value), us.length = (["self", "value"] : List Str).length → bindArgs (PySem.W.fnOf "__init__" q (defArgs st) (defBody st) (defScope st) .none kV doc pm an cdv ct) ⟨us, []⟩ = pure ((["self", "value"] : List Str).zip us)) :
    ∃ fd : FuncData, ClsF P w K mg base x C fI fd := by
  obtain ⟨oc, od, kV, doc, pm, an, cdv, ct, osl, l, c⟩ := A.fn
  have Fm := fun_mk (st := st) l c A.kI
  exact ⟨_, A.t X G, ok_init Fm S hb hv (A.t X G), Fm.binds (ps := ["self", "value"]) b2⟩
/-- a def that another one calls: nothing leaves it -/
structure Def1 (P : Program) (w : World) (K : PySem.W.Frag) (mg : Str → Option Value) (base : Heap) (x : Str) (k : Nat) (f : Addr) (fd : FuncData) (ps : List Str) (sp : Sp) : Prop where
  ok : FnOk P w K mg base CX0 k f fd ps sp
  g : mg x = some (.ref f)
  k : PySem.W.keepIn K (.ref f) = true
  b : Binds K fd ps []
end Wk
set_option Elab.async false
set_option linter.all false
set_option maxRecDepth 100000
set_option maxHeartbeats 4000000
namespace LB
open PySem L2 Wk
/-! ### the text by places -/
def top (i : Nat) : Stmt := PySem.Challenge.pw_wordorder_k08_words_that_follow.main.body.getD i (.Pass ⟨0, 0, 0, 0⟩)
abbrev cOrderError : Stmt := top 1
abbrev cInvalidTable : Stmt := top 2
abbrev cInvalidWords : Stmt := top 3
abbrev sIsWord : Stmt := top 8
abbrev sCheck : Stmt := top 9
abbrev sTopOf : Stmt := top 10
abbrev sWorths : Stmt := top 12
abbrev sStart : Stmt := top 15
abbrev sVocab : Stmt := top 16
abbrev sFollowed : Stmt := top 17
abbrev sSteps : Stmt := top 18
abbrev sHas : Stmt := top 19
abbrev sFollowing : Stmt := top 21
abbrev sRead : Stmt := top 22
abbrev sFollowedBy : Stmt := top 23
abbrev sRng : Stmt := top 25
abbrev sDraw : Stmt := top 26
abbrev sTwice : Stmt := top 27
abbrev sSheet : Stmt := top 28
abbrev sSpelt : Stmt := top 29
abbrev sGreat : Stmt := top 30
abbrev sTree : Stmt := top 31
abbrev sDue : Stmt := top 32
abbrev sRight : Stmt := top 33
abbrev sLaw : Stmt := top 34
end LB
set_option Elab.async false
set_option linter.all false
set_option maxRecDepth 100000
set_option maxHeartbeats 4000000
/-! Family B: the source of draws. -/
namespace LB
open PySem L2 Wk
/-! ### powers of greater numbers -/
def CPowB (i j : Int) : Prop := 0 ≤ j ∧ (Builtin.Int.intBits i : Int) * j ≤ 2 ^ 27
theorem op_powB {X : Cx} : OpR X (binaryOp .Pow) (rI CPowB fun i j => .int (i ^ j.toNat)) := opI fun _ _ _ _ _ _ _ hc q => PyProof.Rows.pow_int hc.1 hc.2 q
theorem bits_le {i : Int} {a : Nat} (h : i.natAbs < 2 ^ a) (h0 : 0 < a) : Builtin.Int.intBits i ≤ a := by
  have z := PySem.Flt.log2_lt_of h0 h
  unfold Builtin.Int.intBits
  split <;> omega
theorem cube_ok {i : Int} (h : i.natAbs < 2 ^ 1000) : CPowB i 3 := by
  have z := bits_le h (by decide)
  exact ⟨by decide, by omega⟩
/-! ### rng -/
structure RngAt (H : Hp) (p : Addr) (d s c : Int) : Prop where
  at_ : H p = some (.lst [.int d, .int s, .int c])
  d0 : 0 ≤ d
  s0 : 0 ≤ s
  s1 : s < 2305843009213693951
  c0 : 0 ≤ c
def spRng (K : PySem.W.Frag) : Sp := fun vs H Q _ => ∃ (a : Addr) (ns : List Int), vs = [.ref a] ∧ SqL K H a (ns.map V.int) ∧ ns.length ≤ 63 ∧
  ∀ (p : Addr) (d s : Int) (H' : Hp), H p = none → RngAt H' p d s 0 → Same H H' → Q (.ref p) H'
/-- a draw below upper; the source alone changes, its counter by at most one -/
def spDraw : Sp := fun vs H Q _ => ∃ (p : Addr) (d s c upper : Int), vs = [.ref p, .int upper] ∧ RngAt H p d s c ∧ 0 < upper ∧ upper.natAbs < 2 ^ 1000 ∧ c < 2 ^ 30 ∧
  ∀ (r d' c' : Int) (H' : Hp), 0 ≤ r → r < upper → c' ≤ c + 1 → RngAt H' p d' s c' → (∀ q o, H q = some o → q ≠ p → H' q = some o) → Q (.int r) H'
/-- one great cell more: the digits stay below a power of two -/
theorem digits_step {d m : Int} {i N : Nat} (hN : N ≤ 2 ^ 200) (d0 : 0 ≤ d) (d1 : d.natAbs < 2 ^ (200 * i + 1)) (m0 : 0 ≤ m) (m1 : m < (N : Int)) : (d * (N : Int) + m).natAbs < 2 ^ (200 * (i + 1) + 1) := by
  obtain ⟨n, rfl⟩ : ∃ n : Nat, d = (n : Int) := ⟨d.toNat, by omega⟩
  obtain ⟨q, rfl⟩ : ∃ q : Nat, m = (q : Int) := ⟨m.toNat, by omega⟩
  have n1 : n < 2 ^ (200 * i + 1) := d1
  have q1 : q < N := by omega
  have e : ((n : Int) * (N : Int) + (q : Int)) = ((n * N + q : Nat) : Int) := by
    rw [Int.natCast_add, Int.natCast_mul]
  rw [e]
  show n * N + q < 2 ^ (200 * (i + 1) + 1)
  rw [show 200 * (i + 1) + 1 = 200 * i + 1 + 200 by omega, Nat.pow_add]
  have a2 : (n + 1) * N ≤ 2 ^ (200 * i + 1) * N := Nat.mul_le_mul_right _ n1
  have a3 : 2 ^ (200 * i + 1) * N ≤ 2 ^ (200 * i + 1) * 2 ^ 200 := Nat.mul_le_mul_left _ hN
  rw [Nat.succ_mul] at a2
  generalize 2 ^ (200 * i + 1) * 2 ^ 200 = Z at a3
  omega
section
variable {P : Program} {w : World} {K : PySem.W.Frag} {mg : Str → Option Value} {base : Heap}
theorem scRng : FnScope ["script", "digits", "seed", "cell", "far"] ["script"] (defScope sRng) := ⟨rfl, rfl, rfl, by decide +kernel, rfl, by decide +kernel, by decide +kernel⟩
theorem ok_rng {f : Addr} {fd : FuncData} (F : Fun K "_law_rng" "_law_rng" sRng f fd) (mA : mg "abs" = none) : FnOk P w K mg base CX0 1 f fd ["script"] (spRng K) := by
  refine F.ok scRng (fun vs H Q E h => ?_) (fun cdv A outer s H vs Q E hr h => ?_)
  · obtain ⟨a, ns, rfl, _⟩ := h
    rfl
  · obtain ⟨a, ns, rfl, hS, hlen, k⟩ := h
    refine ⟨_, pss_cons (ps_asg (pe_tup (pa_cons pe_int (pa_cons pe_int pa_nil))) (pg_tup (by rfl) (pgs_cons (pg_name (i := 1) scRng.nd rfl (.inl rfl)) (pgs_cons (pg_name (i := 2) scRng.nd rfl (.inl rfl)) pgs_nil))))
      (pss_cons (ps_for PassesOwn.never rfl (pi_list (pe_slice sl_list (pv 0) po_none (po_some pe_int))) (pg_name (i := 3) scRng.nd rfl (.inl rfl))
        (pss_cons (ps_set (i := 4) scRng.nd rfl (.inl rfl) (pe_callB call_abs (by rfl) mA (by decide +kernel) (pa_cons (pv 3) pa_nil)))
        (pss_mid (ps_if (pt_cmpR op_ge (pv 4) (pe_op op_pow pe_int pe_int) (nomark _))
          (pss_one (ps_set (i := 1) scRng.nd rfl (.inl rfl) (pe_op op_add (pe_op op_mulW (pv 1) (pe_op op_pow pe_int pe_int)) (pe_op op_mod (pv 4) (pe_op op_pow pe_int pe_int))))) pss_nil)
        (pss_one (ps_set (i := 2) scRng.nd rfl (.inl rfl) (pe_op op_mod (pe_op op_add (pe_op op_add (pe_op op_mul (pv 2) pe_int) (pe_op op_mod (pv 3) pe_int)) pe_int) pe_int))))))
      (pss_one (ps_ret (pe_lst (pa_cons (pv 1) (pa_cons (pv 2) (pa_cons pe_int pa_nil))))))), ?_⟩
    refine ⟨by show 2 ≤ sizeLine; decide, fun T nT => ?_⟩
    refine ⟨T, _, rfl, SqT.of upd_same, rfl, ?_⟩
    have sT : Same H (upd H T (.tup [.int 0, .int 88675123])) := fun b o e => by
      rw [upd_ne (ne_of_none e nT)]
      exact e
    refine ⟨_, _, rfl, _, _, rfl, rfl, _, rfl, _, rfl, a, _, rfl, sT.seq hS, fun L nL => ?_⟩
    obtain ⟨ms, em, hm⟩ : ∃ ms : List Int, cutV (ns.map V.int) none (some 63) = ms.map V.int ∧ ms.length ≤ 63 := by
      refine ⟨(ns.drop (HT.sIx (ns.map V.int).length 0 none)).take (HT.sIx (ns.map V.int).length (ns.map V.int).length (some 63) - HT.sIx (ns.map V.int).length 0 none), ?_, ?_⟩
      · unfold cutV
        rw [List.map_take, List.map_drop]
      · rw [List.length_take, List.length_drop]
        omega
    rw [em]
    generalize hH1 : upd (upd H T (.tup [.int 0, .int 88675123])) L (.lst (ms.map V.int)) = H1
    have s1 : Same H H1 := fun b o e => by
      rw [← hH1, upd_ne (ne_of_none (sT b o e) nL)]
      exact sT b o e
    have hL : H1 L = some (.lst (ms.map V.int)) := by
      rw [← hH1]
      exact upd_same
    refine ⟨L, rfl, ⟨_, SqL.of hL⟩, for_list (K := K) (a := L) (xs := ms.map V.int)
      (fun i σ H2 => H2 = H1 ∧ ∃ (d s : Int) (c x : Option V), σ = [some (.ref a), some (.int d), some (.int s), c, x] ∧ 0 ≤ d ∧ d.natAbs < 2 ^ (200 * i + 1) ∧ 0 ≤ s ∧ s < 2305843009213693951)
      ⟨rfl, 0, 88675123, none, none, rfl, by decide, by decide, by decide, by decide⟩ ?_ ?_ ?_⟩
    · rintro i σ H2 _ ⟨rfl, _⟩
      exact SqL.of hL
    · rintro i y σ H2 hi ⟨rfl, d, s, c, x, rfl, d0, d1, s0, s1'⟩
      have hi' : i < 63 := by
        have z := (List.getElem?_eq_some_iff.mp hi).1
        rw [List.length_map] at z
        omega
      obtain ⟨z, rfl⟩ : ∃ z, y = V.int z := by
        rw [List.getElem?_map] at hi
        cases e : ms[i]? with
        | none =>
          rw [e] at hi
          cases hi
        | some z =>
          rw [e] at hi
          exact ⟨z, (Option.some.inj hi).symm⟩
      refine ⟨_, rfl, _, rfl, ?_⟩
      generalize hfar : (if z < 0 then -z else z) = far
      have far0 : 0 ≤ far := by
        rw [← hfar]
        split <;> omega
      have d2 : d.natAbs < 2 ^ (200 * (i + 1) + 1) := Nat.lt_of_lt_of_le d1 (Nat.pow_le_pow_right (by decide) (by omega))
      refine ⟨fun τ H3 => H3 = H2 ∧ ∃ d', τ = [some (.ref a), some (.int d'), some (.int s), some (.int z), some (.int far)] ∧ 0 ≤ d' ∧ d'.natAbs < 2 ^ (200 * (i + 1) + 1), ?_, ?_⟩
      · refine ⟨_, rfl, _, _, rfl, rfl, ⟨by decide, by decide, by decide⟩, _, _, rfl, rfl, _, rfl, ?_⟩
        refine ite2 (fun _ => ?_) (fun _ => ?_)
        · refine ⟨_, rfl, _, _, rfl, rfl, ⟨by decide, by decide, by decide⟩, _, _, rfl, rfl, ?_, _, rfl, _, _, rfl, rfl, ⟨by decide, by decide, by decide⟩, _, _, rfl, rfl, ?_, _, _, rfl, rfl, ?_⟩
          · exact wide_mul d1 (show (10 ^ 60 : Int).natAbs < 2 ^ 200 by decide) (by omega) (by decide) (by omega)
          · show (0 : Int) < 10 ^ 60
            decide
          · have m0 : 0 ≤ far % 10 ^ 60 := Int.emod_nonneg _ (by decide)
            have m1 : far % 10 ^ 60 < 10 ^ 60 := Int.emod_lt_of_pos _ (by decide)
            have sum0 : 0 ≤ d * 10 ^ 60 + far % 10 ^ 60 := Int.add_nonneg (Int.mul_nonneg d0 (by decide)) m0
            refine ⟨rfl, d * 10 ^ 60 + far % 10 ^ 60, rfl, sum0, ?_⟩
            exact digits_step (N := 10 ^ 60) (by decide) d0 d1 m0 m1
        · exact ⟨rfl, d, rfl, d0, d2⟩
      · rintro τ H2 ⟨rfl, d', rfl, d0', d1'⟩
        have v0 : ∀ v : Int, 0 ≤ v % 2305843009213693951 := fun v => Int.emod_nonneg _ (by decide)
        have v1 : ∀ v : Int, v % 2305843009213693951 < 2305843009213693951 := fun v => Int.emod_lt_of_pos _ (by decide)
        refine ⟨_, rfl, _, _, rfl, rfl, .inl ⟨by omega, by omega⟩, _, rfl, _, _, rfl, rfl, (by show (0 : Int) < 2305843009213693921; decide), _, _, rfl, rfl, _, _, rfl, rfl, _, _, rfl, rfl, (by show (0 : Int) < 2305843009213693951; decide), ?_⟩
        exact ⟨rfl, d', _, _, _, rfl, d0', d1', v0 _, v1 _⟩
    · rintro σ H2 ⟨rfl, d, s, c, x, rfl, d0, d1, s0, s1'⟩
      refine ⟨_, rfl, _, rfl, by show 3 ≤ sizeLine; decide, fun p np => ?_⟩
      refine k p d s _ ?_ ⟨upd_same, d0, s0, s1', by decide⟩ ?_
      · exact s1.free np
      · intro b o e
        rw [upd_ne (ne_of_none (s1 b o e) np)]
        exact s1 b o e
theorem scDraw : FnScope ["rng", "upper", "found", "mixed"] ["rng", "upper"] (defScope sDraw) := ⟨rfl, rfl, rfl, by decide +kernel, rfl, by decide +kernel, by decide +kernel⟩
theorem ok_draw {f : Addr} {fd : FuncData} (F : Fun K "_law_draw" "_law_draw" sDraw f fd) : FnOk P w K mg base CX0 1 f fd ["rng", "upper"] spDraw := by
  refine F.ok scDraw (fun vs H Q E h => ?_) (fun cdv A outer s H vs Q E hr h => ?_)
  · obtain ⟨p, d, s, c, u, rfl, _⟩ := h
    rfl
  · obtain ⟨p, d, sd, c, u, rfl, B, u0, u9, c30, k⟩ := h
    refine ⟨_, pss_cons (ps_if (pt_cmpR op_gt (pe_ix ix_list (pv 0) pe_int (fun _ _ => rfl)) pe_int (nomark _))
        (pss_cons (ps_set (i := 2) scDraw.nd rfl (.inl rfl) (pe_op op_mod (pe_ix ix_list (pv 0) pe_int (fun _ _ => rfl)) (pv 1)))
        (pss_cons (ps_asg (pe_op op_fdivW (pe_ix ix_list (pv 0) pe_int (fun _ _ => rfl)) (pv 1)) (pg_sub (pv 0) pe_int set_list))
        (pss_one (ps_ret (pv 2))))) pss_nil)
      (pss_cons (ps_asg (pe_op op_add (pe_ix ix_list (pv 0) pe_int (fun _ _ => rfl)) pe_int) (pg_sub (pv 0) pe_int set_list))
      (pss_cons (ps_set (i := 3) scDraw.nd rfl (.inl rfl) (pe_op op_mod (pe_op op_pow (pe_op op_add (pe_ix ix_list (pv 0) pe_int (fun _ _ => rfl)) (pe_op op_mul pe_int (pe_ix ix_list (pv 0) pe_int (fun _ _ => rfl)))) pe_int) pe_int))
      (pss_cons (ps_set (i := 3) scDraw.nd rfl (.inl rfl) (pe_op op_mod (pe_op op_powB (pe_op op_add (pv 3) (pe_op op_mul pe_int (pe_ix ix_list (pv 0) pe_int (fun _ _ => rfl)))) pe_int) pe_int))
      (pss_one (ps_ret (pe_op op_mod (pe_op op_fdiv (pv 3) pe_int) (pv 1))))))), ?_⟩
    have a0 : atI [V.int d, V.int sd, V.int c] 0 = some (.int d) := rfl
    have a1 : ∀ e : Int, atI [V.int d, V.int sd, V.int e] 1 = some (.int sd) := fun _ => rfl
    have a2 : ∀ e : Int, atI [V.int d, V.int sd, V.int e] 2 = some (.int e) := fun _ => rfl
    have i0 : ixN [V.int d, V.int sd, V.int c].length 0 = some 0 := rfl
    have i2 : ixN [V.int d, V.int sd, V.int c].length 2 = some 2 := rfl
    refine ⟨_, rfl, _, _, _, _, rfl, rfl, SqL.of B.at_, a0, _, _, rfl, rfl, _, rfl, ?_⟩
    refine ite2 (fun c1 => ?_) (fun c1 => ?_)
    · refine ⟨_, rfl, _, _, _, _, rfl, rfl, SqL.of B.at_, a0, _, rfl, _, _, rfl, rfl, u0, ?_⟩
      refine ⟨_, rfl, _, _, _, _, rfl, rfl, SqL.of B.at_, a0, _, rfl, _, _, rfl, rfl, wide_div u0 u9 (by decide) (by decide), ?_⟩
      refine ⟨_, rfl, p, _, _, _, rfl, rfl, B.at_, i0, _, rfl, ?_⟩
      refine k (d % u) (d / u) c _ (Int.emod_nonneg _ (by omega)) (Int.emod_lt_of_pos _ u0) (by omega) ⟨upd_same, Int.ediv_nonneg B.d0 (by omega), B.s0, B.s1, B.c0⟩ fun q o e n => ?_
      rw [upd_ne n]
      exact e
    · have c0 := B.c0
      have s0 := B.s0
      have s1 := B.s1
      refine ⟨_, rfl, _, _, _, _, rfl, rfl, SqL.of B.at_, a2 c, _, _, rfl, rfl, _, rfl, p, _, _, _, rfl, rfl, B.at_, i2, ?_⟩
      have B2 : RngAt (upd H p (.lst ([V.int d, V.int sd, V.int c].set 2 (V.int (c + 1))))) p d sd (c + 1) := ⟨upd_same, B.d0, B.s0, B.s1, by omega⟩
      have v0 : ∀ v : Int, 0 ≤ v % 162259276829213363391578010288127 := fun v => Int.emod_nonneg _ (by decide)
      have v1 : ∀ v : Int, v % 162259276829213363391578010288127 < 162259276829213363391578010288127 := fun v => Int.emod_lt_of_pos _ (by decide)
      refine ⟨_, rfl, _, _, _, _, rfl, rfl, SqL.of B2.at_, a1 _, _, rfl, _, _, _, _, rfl, rfl, SqL.of B2.at_, a2 _, _, _, rfl, rfl, .inl ⟨by decide, by decide⟩, _, _, rfl, rfl, _, _, rfl, rfl, ⟨by decide, by decide, by omega⟩, _, _, rfl, rfl, (by show (0 : Int) < 162259276829213363391578010288127; decide), ?_⟩
      have w0 := v0 ((sd + 998244353 * (c + 1)) ^ 3)
      have w1 := v1 ((sd + 998244353 * (c + 1)) ^ 3)
      refine ⟨_, rfl, _, rfl, _, _, _, _, rfl, rfl, SqL.of B2.at_, a2 _, _, _, rfl, rfl, .inl ⟨by decide, by decide⟩, _, _, rfl, rfl, _, _, rfl, rfl, cube_ok ?_, _, _, rfl, rfl, (by show (0 : Int) < 170141183460469231731687303715884105727; decide), ?_⟩
      · show ((sd + 998244353 * (c + 1)) ^ 3 % 162259276829213363391578010288127 + 32452843 * (c + 1)).natAbs < 2 ^ 1000
        generalize (sd + 998244353 * (c + 1)) ^ 3 % 162259276829213363391578010288127 = v at w0 w1
        have big : (2 : Nat) ^ 110 ≤ 2 ^ 1000 := Nat.pow_le_pow_right (by decide) (by decide)
        refine Nat.lt_of_lt_of_le ?_ big
        omega
      · refine ⟨_, rfl, _, _, rfl, rfl, ⟨by decide, by decide⟩, _, rfl, _, _, rfl, rfl, u0, ?_⟩
        refine k _ d (c + 1) _ (Int.emod_nonneg _ (by omega)) (Int.emod_lt_of_pos _ u0) (by omega) B2 fun q o e n => ?_
        rw [upd_ne n]
        exact e
end
end LB
set_option Elab.async false
set_option linter.all false
set_option maxRecDepth 100000
set_option maxHeartbeats 4000000
/-! Family B: tables of drawn words. -/
namespace LB
open PySem L2 Wk
/-! ### words -/
def GoodWord (x : Str) : Prop := 1 ≤ x.length ∧ x.length ≤ 20 ∧ ∀ c ∈ x.cps.toList, 97 ≤ c ∧ c ≤ 122
def goodB (x : Str) : Bool := decide (1 ≤ x.length) && (decide (x.length ≤ 20) && x.cps.toList.all fun c => decide (97 ≤ c) && decide (c ≤ 122))
theorem goodB_ok {x : Str} (h : goodB x = true) : GoodWord x := by
  unfold goodB at h
  simp only [Bool.and_eq_true, decide_eq_true_eq, List.all_eq_true] at h
  exact ⟨h.1, h.2.1, fun c hc => h.2.2 c hc⟩
/-- the words of a table, in its order: all different, each a word -/
structure GoodRow (ws : List Str) : Prop where
  nd : ws.Nodup
  ok : ∀ x ∈ ws, GoodWord x
theorem GoodRow.perm {ws us : List Str} (g : GoodRow ws) (h : List.Perm us ws) : GoodRow us := ⟨h.nodup_iff.mpr g.nd, fun x hx => g.ok x (h.mem_iff.mp hx)⟩
theorem GoodRow.left {ws us : List Str} (g : GoodRow (ws ++ us)) : GoodRow ws := ⟨(List.nodup_append.mp g.nd).1, fun x hx => g.ok x (List.mem_append_left _ hx)⟩
theorem erase_perm {α : Type} {l : List α} {i : Nat} {x : α} (h : l[i]? = some x) : List.Perm (x :: l.eraseIdx i) l := by
  obtain ⟨hi, e⟩ := List.getElem?_eq_some_iff.mp h
  have z := List.take_append_drop i l
  rw [List.drop_eq_getElem_cons hi, e] at z
  rw [List.eraseIdx_eq_take_drop_succ]
  have p : List.Perm (l.take i ++ x :: l.drop (i + 1)) (x :: (l.take i ++ l.drop (i + 1))) := List.perm_middle
  rw [z] at p
  exact p.symm
/-! ### _law_twice -/
def twice (ws : List Str) : List Str := ws.flatMap fun x => [x ++ "a", x ++ "b"]
def spTwice (K : PySem.W.Frag) : Sp := fun vs H Q _ => ∃ (a : Addr) (ws : List Str), vs = [.ref a] ∧ SqL K H a (ws.map V.str) ∧ ws.length ≤ 100 ∧ (∀ x ∈ ws, x.length ≤ 1000) ∧
  ∀ (p : Addr) (H' : Hp), H p = none → H' p = some (.lst ((twice ws).map V.str)) → Same H H' → Q (.ref p) H'
section
variable {P : Program} {w : World} {K : PySem.W.Frag} {mg : Str → Option Value} {base : Heap}
theorem scTwice : FnScope ["words_here", "found", "word"] ["words_here"] (defScope sTwice) := ⟨rfl, rfl, rfl, by decide +kernel, rfl, by decide +kernel, by decide +kernel⟩
theorem ok_twice {f : Addr} {fd : FuncData} (F : Fun K "_law_twice" "_law_twice" sTwice f fd) : FnOk P w K mg base CX0 1 f fd ["words_here"] (spTwice K) := by
  refine F.ok scTwice (fun vs H Q E h => ?_) (fun cdv A outer s H vs Q E hr h => ?_)
  · obtain ⟨a, ws, rfl, _⟩ := h
    rfl
  · obtain ⟨a, ws, rfl, hS, hlen, hw, k⟩ := h
    refine ⟨_, pss_cons (ps_set (i := 1) scTwice.nd rfl (.inl rfl) (pe_lst pa_nil))
      (pss_cons (ps_for PassesOwn.never rfl (pi_list (pv 0)) (pg_name (i := 2) scTwice.nd rfl (.inl rfl))
        (pss_one (ps_expr (pe_bm PySem.F.plainAttrs_list PySem.F.slot_list_extend PySem.F.type_list_extend mt_extend (pv 1)
          (pa_cons (pe_lst (pa_cons (pe_op op_add_str (pv 2) pe_str) (pa_cons (pe_op op_add_str (pv 2) pe_str) pa_nil))) pa_nil)))))
      (pss_one (ps_ret (pv 1)))), ?_⟩
    refine ⟨by show 0 ≤ sizeLine; exact Nat.zero_le _, fun p np => ?_⟩
    have fresh : ∀ {H2 : Hp} {xs : List V}, Same H H2 → True := fun _ => trivial
    refine ⟨_, rfl, a, rfl, ⟨_, Same.seq (fun b o e => by rw [upd_ne (ne_of_none e np)]; exact e) hS⟩, for_list (K := K) (a := a) (xs := ws.map V.str)
      (fun i σ H2 => ∃ x : Option V, σ = [some (.ref a), some (.ref p), x] ∧ H2 p = some (.lst ((twice (ws.take i)).map V.str)) ∧ Same H H2)
      ⟨none, rfl, upd_same, fun b o e => by rw [upd_ne (ne_of_none e np)]; exact e⟩ (fun i σ H2 _ ⟨_, _, _, s2⟩ => s2.seq hS) ?_ ?_⟩
    · rintro i y σ H2 hi ⟨x, rfl, hp, s2⟩
      obtain ⟨z, hz, rfl⟩ : ∃ z, ws[i]? = some z ∧ y = V.str z := by
        rw [List.getElem?_map] at hi
        cases e : ws[i]? with
        | none =>
          rw [e] at hi
          cases hi
        | some z =>
          rw [e] at hi
          exact ⟨z, rfl, (Option.some.inj hi).symm⟩
      have zl := hw z (List.mem_of_getElem? hz)
      have il := (List.getElem?_eq_some_iff.mp hz).1
      have more : twice (ws.take (i + 1)) = twice (ws.take i) ++ [z ++ "a", z ++ "b"] := by
        unfold twice
        rw [List.take_add_one, hz, List.flatMap_append]
        rfl
      have tl : (twice (ws.take i)).length ≤ 200 := by
        unfold twice
        rw [List.length_flatMap]
        have e : (List.map (fun x : Str => [x ++ "a", x ++ "b"].length) (ws.take i)).sum = 2 * (ws.take i).length := by
          generalize ws.take i = l
          induction l with
          | nil => rfl
          | cons y l ih =>
            rw [List.map_cons, List.sum_cons, ih]
            show 2 + 2 * l.length = 2 * (l.length + 1)
            omega
        rw [e, List.length_take]
        omega
      have q1 : ("a" : Str).length = 1 := by decide +kernel
      have q2 : ("b" : Str).length = 1 := by decide +kernel
      have big : 1001 ≤ sizeLine := by decide
      have l1 : z.length + ("a" : Str).length ≤ sizeLine := by omega
      have l2 : z.length + ("b" : Str).length ≤ sizeLine := by omega
      refine ⟨_, rfl, .inl ⟨rfl, _, SqL.of hp⟩, ?_⟩
      refine ⟨_, rfl, z, "a", rfl, rfl, l1, _, rfl, z, "b", rfl, rfl, l2, by show 2 ≤ sizeLine; decide, fun q nq => ?_⟩
      have pq : p ≠ q := ne_of_none hp nq
      refine ⟨p, q, _, _, rfl, rfl, by rw [upd_ne pq]; exact hp, upd_same, ?_, _, rfl, ?_, ?_⟩
      · rw [List.length_map]
        exact Nat.le_of_lt (small1000 (by show _ + 2 ≤ 1000; omega))
      · rw [upd_same, more, List.map_append]
        rfl
      · intro b o e
        have e2 := s2 b o e
        rw [upd_ne (ne_of_none e np), upd_ne (ne_of_none e2 nq)]
        exact e2
    · rintro σ H2 ⟨x, rfl, hp, s2⟩
      rw [List.length_map, List.take_length] at hp
      exact ⟨_, rfl, k p H2 np hp s2⟩
end
/-! ### _law_sheet -/
def pool0 : List Str := Txt.split ("zero one two three four five six seven eight nine ten eleven twelve thirteen fourteen fifteen" ++ " sixteen seventeen eighteen nineteen twenty thirty forty fifty sixty seventy eighty" ++ " ninety hundred") " "
def usual29 : List Str := ["zero", "one", "two", "three", "four", "five", "six", "seven", "eight", "nine", "ten", "eleven", "twelve", "thirteen", "fourteen", "fifteen", "sixteen", "seventeen", "eighteen", "nineteen",
  "twenty", "thirty", "forty", "fifty", "sixty", "seventy", "eighty", "ninety", "hundred"]
theorem pool0_is : pool0 = usual29 := by decide +kernel
def poolA : List Str := (usual29 ++ (["thousand", "mil", "milliard", "z", "thousandth", "aa", "hun", "sixt", "o", "ones", "tw"] : List Str)) ++ (["f", "fo", "fiv", "e", "ee", "eee", "qq", "qqq", "y"] : List Str)
def longer0 : List Str := ["a", "b"]
def longerN : Nat → List Str
  | 0 => longer0
  | n + 1 => twice (longerN n)
def poolN : Nat → List Str
  | 0 => []
  | n + 1 => poolN n ++ longerN n
theorem poolA_good : GoodRow poolA ∧ poolA.length = 49 := by
  have e : poolA.all goodB = true := by decide +kernel
  have n : poolA.Nodup := by decide +kernel
  have l : poolA.length = 49 := by decide +kernel
  exact ⟨⟨n, fun x hx => goodB_ok (List.all_eq_true.mp e x hx)⟩, l⟩
theorem poolB_good : GoodRow (poolN 5) ∧ (poolN 5).length = 62 := by
  have e : (poolN 5).all goodB = true := by decide +kernel
  have n : (poolN 5).Nodup := by decide +kernel
  have l : (poolN 5).length = 62 := by decide +kernel
  exact ⟨⟨n, fun x hx => goodB_ok (List.all_eq_true.mp e x hx)⟩, l⟩
theorem small5 : ∀ i : Fin 5, (poolN i.1).length + (longerN i.1).length ≤ 100 ∧ (longerN i.1).length ≤ 100 ∧ (longerN i.1).all (fun x => decide (x.length ≤ 1000)) = true := by decide +kernel
theorem cut_a {l : List Str} {k : Nat} (h : k ≤ l.length) : cutV (l.map V.str) none (some (k : Int)) = (l.take k).map V.str := by
  unfold cutV
  rw [HT.sIx_none, HT.sIx_nat, List.length_map, Nat.min_eq_left h, List.drop_zero, Nat.sub_zero, List.map_take]
theorem cut_b {l : List Str} {k j : Nat} (h : k ≤ l.length) (hj : j ≤ l.length) : cutV (l.map V.str) (some (k : Int)) (some (j : Int)) = ((l.drop k).take (j - k)).map V.str := by
  unfold cutV
  rw [HT.sIx_nat, HT.sIx_nat, List.length_map, Nat.min_eq_left h, Nat.min_eq_left hj, List.map_take, List.map_drop]
theorem cut_c {l : List Str} {k : Nat} (h : k ≤ l.length) : cutV (l.map V.str) (some (k : Int)) none = (l.drop k).map V.str := by
  unfold cutV
  rw [HT.sIx_nat, HT.sIx_none, List.length_map, Nat.min_eq_left h, ← List.map_drop, ← List.map_take, List.take_of_length_le (by rw [List.length_drop]; exact Nat.le_refl _)]
end LB
set_option Elab.async false
set_option linter.all false
set_option maxRecDepth 100000
set_option maxHeartbeats 4000000
namespace LB
open PySem L2 Wk
/-- a table of words stands in the heap -/
structure TabAt (H : Hp) (t : Addr) (ones tens : List Str) (hun : Str) (scales : List Str) (o te sc : Addr) : Prop where
  tup : H t = some (.tup [.ref o, .ref te, .str hun, .ref sc])
  lo : H o = some (.lst (ones.map V.str))
  lt : H te = some (.lst (tens.map V.str))
  ls : H sc = some (.lst (scales.map V.str))
def spSheet : Sp := fun vs H Q _ => ∃ (p : Addr) (d s c most : Int), vs = [.ref p, .int most] ∧ RngAt H p d s c ∧ 0 ≤ most ∧ most ≤ 20 ∧ c < 2 ^ 29 ∧
  ∀ (t o te sc : Addr) (ones tens : List Str) (hun : Str) (scales : List Str) (d' c' : Int) (H' : Hp), H t = none → H o = none → H te = none → H sc = none → o ≠ te → o ≠ sc → te ≠ sc → TabAt H' t ones tens hun scales o te sc →
    ones.length = 20 → tens.length = 8 → (scales.length : Int) ≤ most → GoodRow (ones ++ (tens ++ hun :: scales)) → RngAt H' p d' s c' → c' ≤ c + 100 → (∀ q o, H q = some o → q ≠ p → H' q = some o) → Q (.ref t) H'
theorem erase_map {α β : Type} {g : α → β} {l : List α} {k : Nat} : (l.map g).eraseIdx k = (l.eraseIdx k).map g := by
  rw [List.eraseIdx_eq_take_drop_succ, List.eraseIdx_eq_take_drop_succ, List.map_append, List.map_take, List.map_drop]
theorem seqIndex_nat {n k : Nat} (h : k < n) : seqIndex? (k : Int) n = some k := by
  have e := PySem.seqIndex_of (k := (k : Int)) (n := n) (by omega) (by omega)
  rw [Int.toNat_natCast] at e
  exact e
section
variable {P : Program} {w : World} {K : PySem.W.Frag} {mg : Str → Option Value} {base : Heap}
theorem scSheet : FnScope ["rng", "most", "usual", "pool", "many", "way", "longer", "turn", "found"] ["rng", "most"] (defScope sSheet) := ⟨rfl, rfl, rfl, by decide +kernel, rfl, by decide +kernel, by decide +kernel⟩
theorem ok_sheet {f fD fT : Addr} {fd dD dT : FuncData} (F : Fun K "_law_sheet" "_law_sheet" sSheet f fd)
    (GD : FnOk P w K mg base CX0 1 fD dD ["rng", "upper"] spDraw) (gD : mg "_law_draw" = some (.ref fD)) (kD : PySem.W.keepIn K (.ref fD) = true) (bD : Binds K dD ["rng", "upper"] [])
    (GT : FnOk P w K mg base CX0 1 fT dT ["words_here"] (spTwice K)) (gT : mg "_law_twice" = some (.ref fT)) (kT : PySem.W.keepIn K (.ref fT) = true) (bT : Binds K dT ["words_here"] [])
    (mR : mg "range" = none) (mL : mg "len" = none) : FnOk P w K mg base CX0 2 f fd ["rng", "most"] spSheet := by
  refine F.ok scSheet (fun vs H Q E h => ?_) (fun cdv A outer s H vs Q E hr h => ?_)
  · obtain ⟨p, d, s, c, most, rfl, _⟩ := h
    rfl
  · obtain ⟨p, d, sd, c, most, rfl, B, m0, m20, c29, k⟩ := h
    refine ⟨_, pss_cons (ps_set (i := 2) scSheet.nd rfl (.inl rfl) pe_str)
      (pss_cons (ps_set (i := 2) scSheet.nd rfl (.inl rfl) (pe_op op_add_str (pv 2) pe_str))
      (pss_cons (ps_set (i := 2) scSheet.nd rfl (.inl rfl) (pe_op op_add_str (pv 2) pe_str))
      (pss_cons (ps_set (i := 3) scSheet.nd rfl (.inl rfl) (pe_op op_cat (pe_split (pv 2) pe_str) (pe_lst (pa_cons pe_str (pa_cons pe_str (pa_cons pe_str (pa_cons pe_str (pa_cons pe_str (pa_cons pe_str (pa_cons pe_str (pa_cons pe_str (pa_cons pe_str (pa_cons pe_str (pa_cons pe_str pa_nil))))))))))))))
      (pss_mid (ps_set (i := 3) scSheet.nd rfl (.inl rfl) (pe_op op_cat (pv 3) (pe_lst (pa_cons pe_str (pa_cons pe_str (pa_cons pe_str (pa_cons pe_str (pa_cons pe_str (pa_cons pe_str (pa_cons pe_str (pa_cons pe_str (pa_cons pe_str pa_nil))))))))))))
      (pss_cons (ps_par (i := 4) (j := 5) (by rfl) scSheet.nd rfl rfl (by decide) rfl rfl
        (pa_cons (pe_call GD hr (by rfl) gD kD bD .nil pass0 (pa_cons (pv 0) (pa_cons (pe_op op_add (pv 1) pe_int) pa_nil))) (pa_cons (pe_call GD hr (by rfl) gD kD bD .nil pass0 (pa_cons (pv 0) (pa_cons pe_int pa_nil))) pa_nil)) (by rfl))
      (pss_mid (ps_if (pt_cmpR op_eq (pv 5) pe_int (nomark _))
        (pss_cons (ps_par (i := 3) (j := 6) (by rfl) scSheet.nd rfl rfl (by decide) rfl rfl (pa_cons (pe_lst pa_nil) (pa_cons (pe_lst (pa_cons pe_str (pa_cons pe_str pa_nil))) pa_nil)) (by rfl))
        (pss_one (ps_for PassesOwn.never rfl (pi_range1 rfl mR (pa_cons pe_int pa_nil)) (pg_name (i := 7) scSheet.nd rfl (.inl rfl))
          (pss_cons (ps_set (i := 3) scSheet.nd rfl (.inl rfl) (pe_op op_cat (pv 3) (pv 6)))
          (pss_one (ps_set (i := 6) scSheet.nd rfl (.inl rfl) (pe_call GT hr (by rfl) gT kT bT .nil pass0 (pa_cons (pv 6) pa_nil)))))))) pss_nil)
      (pss_cons (ps_set (i := 8) scSheet.nd rfl (.inl rfl) (pe_lst pa_nil))
      (pss_cons (ps_for PassesOwn.never rfl (pi_range1 rfl mR (pa_cons (pe_op op_add pe_int (pv 4)) pa_nil)) (pg_name (i := 7) scSheet.nd rfl (.inl rfl))
        (pss_one (ps_expr (pe_bm PySem.F.plainAttrs_list PySem.F.slot_list_append PySem.F.type_list_append mt_append (pv 8)
          (pa_cons (pe_bm PySem.F.plainAttrs_list PySem.F.slot_list_pop PySem.F.type_list_pop mt_popAt (pv 3)
            (pa_cons (pe_ifExp (pt_cmpR op_eq (pv 5) pe_int (nomark _)) pe_int (pe_call GD hr (by rfl) gD kD bD .nil pass0 (pa_cons (pv 0) (pa_cons (pe_callB call_len_seq (by rfl) mL PySem.boot_len (pa_cons (pv 3) pa_nil)) pa_nil)))) pa_nil)) pa_nil)))))
      (pss_one (ps_ret (pe_tup (pa_cons (pe_slice sl_list (pv 8) po_none (po_some pe_int)) (pa_cons (pe_slice sl_list (pv 8) (po_some pe_int) (po_some pe_int))
        (pa_cons (pe_ix ix_list (pv 8) pe_int (fun _ _ => rfl)) (pa_cons (pe_slice sl_list (pv 8) (po_some pe_int) po_none) pa_nil))))))))))))))), ?_⟩
    -- the texts
    refine ⟨_, rfl, _, _, rfl, rfl, by decide +kernel, _, rfl, _, _, rfl, rfl, by decide +kernel, ?_⟩
    -- pool
    refine ⟨_, rfl, ⟨_, rfl⟩, _, _, rfl, rfl, by decide +kernel, by decide +kernel, fun p1 n1 => ?_⟩
    refine ⟨by show 11 ≤ sizeLine; decide, fun p2 n2 => ?_⟩
    have p12 : p1 ≠ p2 := fun z => by
      rw [← z, upd_same] at n2
      cases n2
    refine ⟨p1, p2, _, _, rfl, rfl, by rw [upd_ne p12, upd_same], upd_same, ?_, fun p3 n3 => ?_⟩
    · show (pool0.map V.str).length + 11 ≤ sizeLine
      rw [pool0_is]
      decide
    refine ⟨fun τ H5 => ∃ (x2 : Option V) (q : Addr), τ = [some (.ref p), some (.int most), x2, some (.ref q), none, none, none, none, none] ∧ H5 q = some (.lst (poolA.map V.str)) ∧ Same H H5 ∧ H q = none, ?_, ?_⟩
    · refine ⟨_, rfl, by show 9 ≤ sizeLine; decide, fun p4 n4 => ?_⟩
      have p34 : p3 ≠ p4 := fun z => by
        rw [← z, upd_same] at n4
        cases n4
      refine ⟨p3, p4, _, _, rfl, rfl, by rw [upd_ne p34, upd_same], upd_same, ?_, fun p5 n5 => ?_⟩
      · show (pool0.map V.str ++ _).length + 9 ≤ sizeLine
        rw [pool0_is]
        decide
      have same1 : ∀ {H1 : Hp} {q : Addr} {o : HO}, Same H H1 → H1 q = none → Same H (upd H1 q o) := fun {H1 q o} s n x u e => by
        rw [upd_ne (ne_of_none (s x u e) n)]
        exact s x u e
      refine ⟨_, p5, rfl, ?_, same1 (same1 (same1 (same1 (same1 (Same.refl H) n1) n2) n3) n4) n5, Same.free (same1 (same1 (same1 (same1 (Same.refl H) n1) n2) n3) n4) n5⟩
      rw [upd_same]
      have sz : (pool0.map V.str ++ [.str "thousand", .str "mil", .str "milliard", .str "z", .str "thousandth", .str "aa", .str "hun", .str "sixt", .str "o", .str "ones", .str "tw"]) ++ [.str "f", .str "fo", .str "fiv", .str "e", .str "ee", .str "eee", .str "qq", .str "qqq", .str "y"] = poolA.map V.str := by
        rw [pool0_is]
        rfl
      exact congrArg (fun z => some (HO.lst z)) sz
    rintro τ H5 ⟨x2, p5, rfl, h5, s5, n5⟩
    have p5p : p5 ≠ p := fun z => by
      rw [z, B.at_] at n5
      cases n5
    have B5 : RngAt H5 p d sd c := ⟨s5 _ _ B.at_, B.d0, B.s0, B.s1, B.c0⟩
    have big : ∀ {n : Nat}, n < 2 ^ 10 → n < 2 ^ 1000 := fun h => Nat.lt_of_lt_of_le h (Nat.pow_le_pow_right (by decide) (by decide))
    -- many, way
    refine ⟨_, rfl, _, rfl, _, _, rfl, rfl, p, d, sd, c, most + 1, rfl, B5, by omega, big (by omega), by omega, fun many d6 c6 H6 m60 m61 c6l B6 e6 => ?_⟩
    refine ⟨_, rfl, p, d6, sd, c6, 3, rfl, B6, by decide, big (by decide), by omega, fun way d7 c7 H7 w70 w71 c7l B7 e7 => ?_⟩
    have keep7 : ∀ q o, H q = some o → q ≠ p → H7 q = some o := fun q o e n => e7 _ _ (e6 _ _ (s5 _ _ e) n) n
    have h7 : H7 p5 = some (.lst (poolA.map V.str)) := e7 _ _ (e6 _ _ h5 p5p) p5p
    refine ⟨_, _, rfl, ?_⟩
    -- the pool, by the way
    refine ⟨fun τ H8 => ∃ (x2 x6 x7 : Option V) (q : Addr) (pool : List Str), τ = [some (.ref p), some (.int most), x2, some (.ref q), some (.int many), some (.int way), x6, x7, none] ∧ H8 q = some (.lst (pool.map V.str)) ∧
      GoodRow pool ∧ 49 ≤ pool.length ∧ pool.length ≤ 62 ∧ RngAt H8 p d7 sd c7 ∧ H q = none ∧ ∀ q o, H q = some o → q ≠ p → H8 q = some o, ?_, ?_⟩
    · refine ⟨_, rfl, rfl, _, rfl, ite2 (fun _ => ?_) (fun _ => ?_)⟩
      · refine ⟨by show 0 ≤ sizeLine; exact Nat.zero_le _, fun a1 n1 => ⟨by show 2 ≤ sizeLine; decide, fun b1 n2 => ⟨_, _, rfl, ?_⟩⟩⟩
        have free7 : ∀ {x : Addr}, H7 x = none → H x = none := fun {x} n => by
          cases e : H x with
          | none => rfl
          | some o =>
            have xp : x ≠ p := fun z => by
              rw [z, B7.at_] at n
              cases n
            rw [keep7 x o e xp] at n
            cases n
        have ba : a1 ≠ b1 := fun z => by
          rw [← z, upd_same] at n2
          cases n2
        have pa : p ≠ a1 := fun z => by
          rw [← z, B7.at_] at n1
          cases n1
        have n2' : H7 b1 = none := by
          rw [upd_ne ba.symm] at n2
          exact n2
        have pb : p ≠ b1 := fun z => by
          rw [← z, B7.at_] at n2'
          cases n2'
        refine ⟨5, rfl, by decide, by decide, for_range (lo := 0) (n := 5) (fun i σ H8 => ∃ (x2 x7 : Option V) (a b : Addr), σ = [some (.ref p), some (.int most), x2, some (.ref a), some (.int many), some (.int way), some (.ref b), x7, none] ∧
          H8 a = some (.lst ((poolN i).map V.str)) ∧ H8 b = some (.lst ((longerN i).map V.str)) ∧ H a = none ∧ RngAt H8 p d7 sd c7 ∧ ∀ q o, H q = some o → q ≠ p → H8 q = some o) ?_ ?_ ?_⟩
        · refine ⟨_, _, a1, b1, rfl, by rw [upd_ne ba, upd_same]; rfl, upd_same, free7 n1, ⟨by rw [upd_ne pb, upd_ne pa]; exact B7.at_, B7.d0, B7.s0, B7.s1, B7.c0⟩, fun q o e n => ?_⟩
          have e7' := keep7 q o e n
          rw [upd_ne (ne_of_none e7' n2'), upd_ne (ne_of_none e7' n1)]
          exact e7'
        · rintro i σ H8 hi ⟨x2, x7, a, b, rfl, ha, hb, na, B8, keep8⟩
          obtain ⟨q1, q2, q3⟩ := small5 ⟨i, hi⟩
          have q1 : (poolN i).length + (longerN i).length ≤ 100 := q1
          refine ⟨_, rfl, _, rfl, a, b, _, _, rfl, rfl, ha, hb, ?_, fun n nn => ?_⟩
          · rw [List.length_map, List.length_map]
            exact Nat.le_of_lt (small1000 (by omega))
          have bn : b ≠ n := ne_of_none hb nn
          have pn : p ≠ n := ne_of_none B8.at_ nn
          have nH : H n = none := by
            cases e : H n with
            | none => rfl
            | some o =>
              rw [keep8 n o e pn.symm] at nn
              cases nn
          refine ⟨_, rfl, b, longerN i, rfl, SqL.of (by rw [upd_ne bn]; exact hb), q2, fun x hx => of_decide_eq_true (List.all_eq_true.mp q3 x hx), fun m H9 nm hm s9 => ?_⟩
          refine ⟨_, _, n, m, rfl, ?_, hm, nH, ⟨s9 _ _ (by rw [upd_ne pn]; exact B8.at_), B8.d0, B8.s0, B8.s1, B8.c0⟩, fun q o e nq => s9 _ _ ?_⟩
          · refine s9 _ _ ?_
            rw [upd_same, ← List.map_append]
            rfl
          · have e8 := keep8 q o e nq
            rw [upd_ne (ne_of_none e8 nn)]
            exact e8
        · rintro σ H8 ⟨x2, x7, a, b, rfl, ha, hb, na, B8, keep8⟩
          exact ⟨_, _, _, a, poolN 5, rfl, ha, poolB_good.1, by rw [poolB_good.2]; decide, by rw [poolB_good.2]; decide, B8, na, keep8⟩
      · exact ⟨_, _, _, p5, poolA, rfl, h7, poolA_good.1, by rw [poolA_good.2]; decide, by rw [poolA_good.2]; decide, B7, n5, keep7⟩
    rintro τ H8 ⟨x2, x6, x7, q, pool, rfl, h8, good, pl0, pl1, B8, nq, keep8⟩
    have free8 : ∀ {x : Addr}, H8 x = none → H x = none := fun {x} n => by
      cases e : H x with
      | none => rfl
      | some o =>
        have xp : x ≠ p := fun z => by
          rw [z, B8.at_] at n
          cases n
        rw [keep8 x o e xp] at n
        cases n
    have qp : q ≠ p := fun z => by
      rw [z, B.at_] at nq
      cases nq
    -- found
    refine ⟨by show 0 ≤ sizeLine; exact Nat.zero_le _, fun f nf => ?_⟩
    have pf : p ≠ f := ne_of_none B8.at_ nf
    have qf : q ≠ f := ne_of_none h8 nf
    obtain ⟨n, en, n20⟩ : ∃ n : Nat, many = (n : Int) ∧ n ≤ 20 := ⟨many.toNat, by omega, by omega⟩
    subst en
    have nN : (29 + (n : Int)) = ((29 + n : Nat) : Int) := by omega
    refine ⟨_, rfl, _, _, rfl, rfl, ((29 + n : Nat) : Int), congrArg (fun z => [V.int z]) nN, by omega, by omega, ?_⟩
    refine for_range (lo := 0) (n := (((29 + n : Nat) : Int)).toNat) (fun i σ H9 => ∃ (x2 x6 x7 : Option V) (fo po : List Str) (d9 c9 : Int), σ = [some (.ref p), some (.int most), x2, some (.ref q), some (.int (n : Int)), some (.int way), x6, x7, some (.ref f)] ∧
      H9 f = some (.lst (fo.map V.str)) ∧ H9 q = some (.lst (po.map V.str)) ∧ fo.length = i ∧ po.length + i = pool.length ∧ List.Perm (fo ++ po) pool ∧ RngAt H9 p d9 sd c9 ∧ c9 ≤ c7 + (i : Int) ∧ ∀ u o, H u = some o → u ≠ p → H9 u = some o) ?_ ?_ ?_
    · refine ⟨_, _, _, [], pool, d7, c7, rfl, upd_same, by rw [upd_ne qf]; exact h8, rfl, rfl, .refl _, ⟨by rw [upd_ne pf]; exact B8.at_, B8.d0, B8.s0, B8.s1, B8.c0⟩, by omega, fun u o e nu => ?_⟩
      have e8 := keep8 u o e nu
      rw [upd_ne (ne_of_none e8 nf)]
      exact e8
    · rintro i σ H9 hi ⟨x2, x6, x7, fo, po, d9, c9, rfl, hf, hq, fl, pl, pm, B9, c9l, keep9⟩
      have hi' : i < 29 + n := by omega
      have po0 : 0 < po.length := by omega
      have nHf : H f = none := free8 nf
      -- behind the index
      have tail : ∀ (kk : Nat) (d' c' : Int) (Hx : Hp), kk < po.length → RngAt Hx p d' sd c' → c' ≤ c9 + 1 → (∀ u o, H9 u = some o → u ≠ p → Hx u = some o) →
          rPopAt (.ref q) [.int (kk : Int)] Hx fun y Hy => rAppend (.ref f) [y] Hy fun _ Hz => ∃ (y2 y6 y7 : Option V) (fo po : List Str) (d9 c9 : Int),
            [some (V.ref p), some (V.int most), x2, some (V.ref q), some (V.int (n : Int)), some (V.int way), x6, some (V.int (0 + (i : Int))), some (V.ref f)] = [some (V.ref p), some (V.int most), y2, some (V.ref q), some (V.int (n : Int)), some (V.int way), y6, y7, some (V.ref f)] ∧
            Hz f = some (.lst (fo.map V.str)) ∧ Hz q = some (.lst (po.map V.str)) ∧ fo.length = i + 1 ∧ po.length + (i + 1) = pool.length ∧ List.Perm (fo ++ po) pool ∧ RngAt Hz p d9 sd c9 ∧ c9 ≤ c7 + ((i + 1 : Nat) : Int) ∧ ∀ u o, H u = some o → u ≠ p → Hz u = some o := by
        intro kk d' c' Hx hk Bx cx kx
        obtain ⟨x, hx⟩ : ∃ x, po[kk]? = some x := ⟨_, List.getElem?_eq_getElem hk⟩
        have hqx := kx _ _ hq qp
        have hfx := kx _ _ hf pf.symm
        refine ⟨q, _, _, kk, .str x, rfl, rfl, hqx, by omega, by omega, ?_, ?_, ?_⟩
        · rw [List.length_map]
          exact seqIndex_nat hk
        · rw [List.getElem?_map, hx]
          rfl
        refine ⟨f, _, _, rfl, rfl, by rw [upd_ne qf.symm]; exact hfx, ?_, ?_⟩
        · rw [List.length_map]
          exact small1000 (by omega)
        refine ⟨x2, x6, _, fo ++ [x], po.eraseIdx kk, d', c', rfl, ?_, ?_, ?_, ?_, ?_, ⟨by rw [upd_ne pf, upd_ne qp.symm]; exact Bx.at_, Bx.d0, Bx.s0, Bx.s1, Bx.c0⟩, by omega, fun u o e nu => ?_⟩
        · rw [upd_same, List.map_append]
          rfl
        · rw [upd_ne qf, upd_same, erase_map]
        · rw [List.length_append, fl]
          rfl
        · rw [List.length_eraseIdx, if_pos hk]
          omega
        · refine .trans ?_ pm
          rw [List.append_assoc]
          exact List.Perm.append_left _ (erase_perm hx)
        · have uf : u ≠ f := fun z => by
            rw [z, nHf] at e
            cases e
          have uq : u ≠ q := fun z => by
            rw [z, nq] at e
            cases e
          rw [upd_ne uf, upd_ne uq]
          exact kx _ _ (keep9 u o e nu) nu
      refine ⟨_, rfl, .inl ⟨rfl, _, SqL.of hf⟩, _, rfl, .inl ⟨rfl, _, SqL.of hq⟩, ?_⟩
      refine ⟨_, rfl, rfl, _, rfl, ite2 (fun _ => ?_) (fun _ => ?_)⟩
      · obtain ⟨l1, l2, l3, l4, l5, l6, l7, l8, l9, m1, m2, m3, m4, m5, m6, m7, m8, m9, r1, r2⟩ := tail 0 d9 c9 H9 po0 B9 (by omega) fun u o e _ => e
        exact ⟨l1, l2, l3, l4, l5, l6, l7, l8, l9, m1, m2, m3, m4, m5, m6, m7, m8, m9, r1, r2⟩
      · refine ⟨_, rfl, _, rfl, q, _, rfl, .inl (SqL.of hq), p, d9, sd, c9, _, rfl, B9, ?_, big ?_, by omega, fun r d' c' Hx r0 r1 cx Bx kx => ?_⟩
        · rw [List.length_map]
          omega
        · rw [List.length_map]
          omega
        rw [List.length_map] at r1
        obtain ⟨kk, rfl⟩ : ∃ kk : Nat, r = (kk : Int) := ⟨r.toNat, by omega⟩
        obtain ⟨l1, l2, l3, l4, l5, l6, l7, l8, l9, m1, m2, m3, m4, m5, m6, m7, m8, m9, q1, q2⟩ := tail kk d' c' Hx (by omega) Bx cx kx
        exact ⟨l1, l2, l3, l4, l5, l6, l7, l8, l9, m1, m2, m3, m4, m5, m6, m7, m8, m9, q1, q2⟩
    · rintro σ H9 ⟨x2, x6, x7, fo, po, d9, c9, rfl, hf, hq, fl, pl, pm, B9, c9l, keep9⟩
      have fl' : fo.length = 29 + n := by omega
      have g := (good.perm pm).left
      have nHf : H f = none := free8 nf
      have free9 : ∀ {x : Addr}, H9 x = none → H x = none := fun {x} nn => by
        cases e : H x with
        | none => rfl
        | some o =>
          have xp : x ≠ p := fun z => by
            rw [z, B9.at_] at nn
            cases nn
          rw [keep9 x o e xp] at nn
          cases nn
      obtain ⟨hun, hh⟩ : ∃ hun, fo[28]? = some hun := ⟨_, List.getElem?_eq_getElem (by omega)⟩
      refine ⟨_, rfl, _, rfl, f, _, rfl, SqL.of hf, fun a1 n1 => ?_⟩
      have f1 : f ≠ a1 := ne_of_none hf n1
      have p1 : p ≠ a1 := ne_of_none B9.at_ n1
      have hf1 : upd H9 a1 (.lst (cutV (fo.map V.str) none (some 20))) f = some (.lst (fo.map V.str)) := by
        rw [upd_ne f1]
        exact hf
      refine ⟨_, rfl, _, rfl, _, rfl, f, _, rfl, SqL.of hf1, fun a2 n2 => ?_⟩
      have f2 : f ≠ a2 := ne_of_none hf1 n2
      have a21 : a2 ≠ a1 := fun z => by
        rw [z, upd_same] at n2
        cases n2
      have n2' : H9 a2 = none := by
        rw [upd_ne a21] at n2
        exact n2
      have p2 : p ≠ a2 := ne_of_none B9.at_ n2'
      have hf2 : upd (upd H9 a1 (.lst (cutV (fo.map V.str) none (some 20)))) a2 (.lst (cutV (fo.map V.str) (some 20) (some 28))) f = some (.lst (fo.map V.str)) := by
        rw [upd_ne f2]
        exact hf1
      refine ⟨_, rfl, f, _, _, _, rfl, rfl, SqL.of hf2, atI_nat (j := 28) (v := .str hun) (by rw [List.getElem?_map, hh]; rfl), ?_⟩
      refine ⟨_, rfl, _, rfl, f, _, rfl, SqL.of hf2, fun a3 n3 => ?_⟩
      have a32 : a3 ≠ a2 := fun z => by
        rw [z, upd_same] at n3
        cases n3
      have a31 : a3 ≠ a1 := fun z => by
        rw [upd_ne a32, z, upd_same] at n3
        cases n3
      have n3' : H9 a3 = none := by
        rw [upd_ne a32, upd_ne a31] at n3
        exact n3
      have p3 : p ≠ a3 := ne_of_none B9.at_ n3'
      refine ⟨by show 4 ≤ sizeLine; decide, fun t nt => ?_⟩
      have t3 : t ≠ a3 := fun z => by
        rw [z, upd_same] at nt
        cases nt
      have t2 : t ≠ a2 := fun z => by
        rw [upd_ne t3, z, upd_same] at nt
        cases nt
      have t1 : t ≠ a1 := fun z => by
        rw [upd_ne t3, upd_ne t2, z, upd_same] at nt
        cases nt
      have nt' : H9 t = none := by
        rw [upd_ne t3, upd_ne t2, upd_ne t1] at nt
        exact nt
      have pt : p ≠ t := ne_of_none B9.at_ nt'
      refine k t a1 a2 a3 (fo.take 20) ((fo.drop 20).take 8) hun (fo.drop 29) d9 c9 _ (free9 nt') (free9 n1) (free9 n2') (free9 n3') a21.symm a31.symm a32.symm ⟨upd_same, ?_, ?_, ?_⟩ ?_ ?_ ?_ ?_ ⟨?_, B9.d0, B9.s0, B9.s1, B9.c0⟩ (by omega) ?_
      · rw [upd_ne t1.symm, upd_ne a31.symm, upd_ne a21.symm, upd_same]
        exact congrArg (fun z => some (HO.lst z)) (cut_a (k := 20) (by omega))
      · rw [upd_ne t2.symm, upd_ne a32.symm, upd_same]
        exact congrArg (fun z => some (HO.lst z)) (cut_b (k := 20) (j := 28) (by omega) (by omega))
      · rw [upd_ne t3.symm, upd_same]
        exact congrArg (fun z => some (HO.lst z)) (cut_c (k := 29) (by omega))
      · rw [List.length_take]
        omega
      · rw [List.length_take, List.length_drop]
        omega
      · rw [List.length_drop]
        omega
      · have e : fo.take 20 ++ ((fo.drop 20).take 8 ++ hun :: fo.drop 29) = fo := by
          have e1 : hun :: fo.drop 29 = fo.drop 28 := by
            obtain ⟨h28, e28⟩ := List.getElem?_eq_some_iff.mp hh
            rw [List.drop_eq_getElem_cons h28, e28]
          have e2 : (fo.drop 20).take 8 ++ fo.drop 28 = fo.drop 20 := by
            have z := List.take_append_drop 8 (fo.drop 20)
            rw [List.drop_drop] at z
            exact z
          rw [e1, e2, List.take_append_drop]
        rw [e]
        exact g
      · rw [upd_ne pt, upd_ne p3, upd_ne p2, upd_ne p1]
        exact B9.at_
      · intro u o e nu
        have e9 := keep9 u o e nu
        rw [upd_ne (ne_of_none e9 nt'), upd_ne (ne_of_none e9 n3'), upd_ne (ne_of_none e9 n2'), upd_ne (ne_of_none e9 n1)]
        exact e9
end
end LB
set_option Elab.async false
set_option linter.all false
set_option maxRecDepth 100000
set_option maxHeartbeats 4000000
/-! The program's own: is_word, check_table, limit, for valid tables. -/
namespace LB
open PySem L2 Wk
theorem chars : ∀ c : Fin 128, (Unicode.isAlpha c.1 && !(Unicode.isUpper c.1 || Unicode.isTitle c.1)) = (decide (97 ≤ c.1) && decide (c.1 ≤ 122)) ∧ (97 ≤ c.1 → c.1 ≤ 122 → Unicode.isLower c.1 = true) := by decide +kernel
theorem GoodWord.tests {x : Str} (g : GoodWord x) : Txt.isascii x = true ∧ Txt.isalpha x = true ∧ Txt.islower x = true := by
  obtain ⟨h1, h2, h3⟩ := g
  have low : ∀ c ∈ x.cps.toList, c < 128 := fun c hc => by have := h3 c hc; omega
  have len : x.length = x.cps.toList.length := by
    show x.cps.size = _
    rw [Array.length_toList]
  refine ⟨?_, ?_, ?_⟩
  · unfold Txt.isascii
    rw [Array.all_eq_true_iff_forall_mem]
    intro c hc
    exact decide_eq_true (low c (Array.mem_toList_iff.mpr hc))
  · unfold Txt.isalpha
    rw [Bool.and_eq_true]
    refine ⟨decide_eq_true (by omega), ?_⟩
    rw [Array.all_eq_true_iff_forall_mem]
    intro c hc
    have hm := Array.mem_toList_iff.mpr hc
    have z := (chars ⟨c, low c hm⟩).1
    have r := h3 c hm
    simp only [decide_eq_true r.1, decide_eq_true r.2, Bool.and_true, Bool.and_eq_true] at z
    exact z.1
  · unfold Txt.islower
    rw [Bool.and_eq_true]
    constructor
    · rw [← Array.any_toList, List.any_eq_true]
      obtain ⟨c, hc⟩ : ∃ c, c ∈ x.cps.toList := by
        cases e : x.cps.toList with
        | nil =>
          rw [len, e] at h1
          exact absurd h1 (by decide)
        | cons c r => exact ⟨c, List.mem_cons_self⟩
      exact ⟨c, hc, (chars ⟨c, low c hc⟩).2 (h3 c hc).1 (h3 c hc).2⟩
    · rw [Bool.not_eq_true', Array.any_eq_false]
      intro i hi
      have hm : x.cps[i] ∈ x.cps.toList := Array.mem_toList_iff.mpr (Array.getElem_mem hi)
      have z := (chars ⟨x.cps[i], low _ hm⟩).1
      have r := h3 _ hm
      simp only [decide_eq_true r.1, decide_eq_true r.2, Bool.and_true, Bool.and_eq_true, Bool.not_eq_true'] at z
      rw [z.2]
      exact Bool.false_ne_true
/-! ### is_word -/
def spIsWord : Sp := fun vs H Q _ => ∃ x : Str, vs = [.str x] ∧ GoodWord x ∧ Q (.bl true) H
/-- the constants of the module -/
structure TxtP (K : PySem.W.Frag) (mg : Str → Option Value) (E1 E2 : Addr) : Prop where
  len : mg "len" = none
  long : ∃ t, mg "LONGEST_WORD" = some (.int 20 t)
  g1 : mg "ENGLISH_ONES" = some (.ref E1)
  g2 : mg "ENGLISH_TENS" = some (.ref E2)
  e1 : ∃ xs : List V, xs.length = 20 ∧ ∀ H, SqT K H E1 xs
  e2 : ∃ xs : List V, xs.length = 8 ∧ ∀ H, SqT K H E2 xs
section
variable {P : Program} {w : World} {K : PySem.W.Frag} {mg : Str → Option Value} {base : Heap} {E1 E2 : Addr}
theorem scIsWord : FnScope ["text"] ["text"] (defScope sIsWord) := ⟨rfl, rfl, rfl, by decide +kernel, rfl, by decide +kernel, by decide +kernel⟩
theorem ok_isWord {f : Addr} {fd : FuncData} (F : Fun K "is_word" "is_word" sIsWord f fd) (T : TxtP K mg E1 E2) : FnOk P w K mg base CX0 1 f fd ["text"] spIsWord := by
  refine F.ok scIsWord (fun vs H Q E h => ?_) (fun cdv A outer s H vs Q E hr h => ?_)
  · obtain ⟨x, rfl, _⟩ := h
    rfl
  · obtain ⟨x, rfl, g, k⟩ := h
    obtain ⟨tk, mL⟩ := T.long
    obtain ⟨t1, t2, t3⟩ := g.tests
    refine ⟨_, pss_one (ps_ret (pe_and (pe_cmpR op_le (pe_callB call_len_str (by rfl) T.len PySem.boot_len (pa_cons (pv 0) pa_nil)) (pe_glob (v := .int 20) rfl mL ⟨_, rfl⟩) (nomark _))
      (pe_and (pe_m0 PySem.F.slot_str_isascii PySem.F.type_str_isascii mt_isascii (pv 0))
      (pe_and (pe_m0 PySem.F.slot_str_isalpha PySem.F.type_str_isalpha mt_isalpha (pv 0))
      (pe_one (pe_m0 PySem.F.slot_str_islower PySem.F.type_str_islower mt_islower (pv 0))))))), ?_⟩
    have big : 20 ≤ sizeLine := by decide
    have l2 : x.length ≤ 20 := g.2.1
    refine ⟨_, rfl, x, rfl, by omega, _, _, rfl, rfl, _, rfl, ?_⟩
    rw [decide_eq_true (show ((x.length : Nat) : Int) ≤ 20 by omega)]
    refine iteT ⟨_, rfl, ⟨_, rfl⟩, x, rfl, rfl, trivial, _, rfl, ?_⟩
    rw [t1]
    refine iteT ⟨_, rfl, ⟨_, rfl⟩, x, rfl, rfl, trivial, _, rfl, ?_⟩
    rw [t2]
    refine iteT ⟨_, rfl, ⟨_, rfl⟩, x, rfl, rfl, trivial, ?_⟩
    rw [t3]
    exact k
/-! ### check_table of a valid table -/
def spCheck : Sp := fun vs H Q _ => ∃ (t o te sc : Addr) (ones tens : List Str) (hun : Str) (scales : List Str), vs = [.ref t] ∧ TabAt H t ones tens hun scales o te sc ∧ ones.length = 20 ∧ tens.length = 8 ∧ scales.length ≤ 900 ∧
  GoodRow (ones ++ (tens ++ hun :: scales)) ∧ ∀ H', Same H H' → Q .non H'
def seenK (ws : List Str) : List (Key × V) := ws.map fun x => (Sum.inr x, V.bl true)
theorem seen_no {ws : List Str} {x : Str} (h : ¬ x ∈ ws) : valV (seenK ws) (Sum.inr x : Key) = none := by
  unfold valV seenK
  rw [List.find?_eq_none.mpr]
  · rfl
  · intro p hp
    obtain ⟨y, hy, rfl⟩ := List.mem_map.mp hp
    simp only [decide_eq_true_eq]
    intro e
    exact h (Sum.inr.inj e ▸ hy)
theorem not_before {α : Type} {ws : List α} {i : Nat} {x : α} (nd : ws.Nodup) (h : ws[i]? = some x) : ¬ x ∈ ws.take i := by
  obtain ⟨hi, e⟩ := List.getElem?_eq_some_iff.mp h
  intro m
  have z := List.take_append_drop i ws
  rw [List.drop_eq_getElem_cons hi, e] at z
  rw [← z] at nd
  exact (List.nodup_append.mp nd).2.2 x m x List.mem_cons_self rfl
theorem scCheck : FnScope ["table", "ones", "tens", "hundred", "scales", "seen", "word"] ["table"] (defScope sCheck) := ⟨rfl, rfl, rfl, by decide +kernel, rfl, by decide +kernel, by decide +kernel⟩
theorem ok_check {f fW : Addr} {fd dW : FuncData} (F : Fun K "check_table" "check_table" sCheck f fd) (T : TxtP K mg E1 E2)
    (GW : FnOk P w K mg base CX0 1 fW dW ["text"] spIsWord) (gW : mg "is_word" = some (.ref fW)) (kW : PySem.W.keepIn K (.ref fW) = true) (bW : Binds K dW ["text"] []) : FnOk P w K mg base CX0 2 f fd ["table"] spCheck := by
  refine F.ok scCheck (fun vs H Q E h => ?_) (fun cdv A outer s H vs Q E hr h => ?_)
  · obtain ⟨t, o, te, sc, ones, tens, hun, scales, rfl, _⟩ := h
    rfl
  · obtain ⟨t, o, te, sc, ones, tens, hun, scales, rfl, TA, l1, l2, l3, good, k⟩ := h
    obtain ⟨xs1, xl1, q1⟩ := T.e1
    obtain ⟨xs2, xl2, q2⟩ := T.e2
    have hu := hu_of hr
    refine ⟨_, pss_cons (ps_asg (pv 0) (pg_tup (by rfl) (pgs_cons (pg_name (i := 1) scCheck.nd rfl (.inl rfl)) (pgs_cons (pg_name (i := 2) scCheck.nd rfl (.inl rfl)) (pgs_cons (pg_name (i := 3) scCheck.nd rfl (.inl rfl)) (pgs_cons (pg_name (i := 4) scCheck.nd rfl (.inl rfl)) pgs_nil))))))
      (pss_cons (ps_if (PW.pt (pw_or (pt_cmpR op_ne (pe_callB call_len_seq (by rfl) T.len PySem.boot_len (pa_cons (pv 1) pa_nil)) (pe_callB call_len_seq (by rfl) T.len PySem.boot_len (pa_cons (pe_glob (v := .ref E1) rfl T.g1 rfl) pa_nil)) (nomark _))
          (pw_or1 (pt_cmpR op_ne (pe_callB call_len_seq (by rfl) T.len PySem.boot_len (pa_cons (pv 2) pa_nil)) (pe_callB call_len_seq (by rfl) T.len PySem.boot_len (pa_cons (pe_glob (v := .ref E2) rfl T.g2 rfl) pa_nil)) (nomark _)))))
        pss_never pss_nil)
      (pss_cons (ps_set (i := 5) scCheck.nd rfl (.inl rfl) pe_dnewK)
      (pss_one (ps_for PassesOwn.never rfl (pi_list (pe_lst (StX.pa_star (pv 1) (StX.pa_star (pv 2) (pa_cons (pv 3) (StX.pa_star (pv 4) pa_nil)))))) (pg_name (i := 6) scCheck.nd rfl (.inl rfl))
        (pss_cons (ps_if (PW.pt (pw_or (pt_cmp (pc_din hu (pv 6) (pv 5))) (pw_or1 (pt_not (pt_val (pe_call GW hr (by rfl) gW kW bW .nil pass0 (pa_cons (pv 6) pa_nil))))))) pss_never pss_nil)
        (pss_one (ps_dput hu (pv 5) (pv 6) pe_bl rfl))))))), ?_⟩
    refine ⟨_, rfl, t, _, rfl, SqT.of TA.tup, rfl, _, _, rfl, _, _, rfl, _, _, rfl, _, _, rfl, rfl, ?_⟩
    refine ⟨_, rfl, o, _, rfl, .inl (SqL.of TA.lo), E1, xs1, rfl, .inr (q1 _), rfl, _, rfl, ?_⟩
    rw [List.length_map, l1, xl1]
    refine iteNS rfl ⟨_, rfl, te, _, rfl, .inl (SqL.of TA.lt), E2, xs2, rfl, .inr (q2 _), rfl, _, rfl, ?_⟩
    rw [List.length_map, l2, xl2]
    refine iteNS rfl ?_
    intro e ne
    obtain ⟨row, hrow⟩ : ∃ row, row = ones ++ (tens ++ hun :: scales) := ⟨_, rfl⟩
    have rl : row.length ≤ 1000 := by
      rw [hrow, List.length_append, List.length_append, List.length_cons]
      omega
    have s1 : Same H (upd H e (.dK [])) := fun b u z => by
      rw [upd_ne (ne_of_none z ne)]
      exact z
    have eqs : ones.map V.str ++ (tens.map V.str ++ V.str hun :: (scales.map V.str ++ [])) = row.map V.str := by
      rw [hrow, List.append_nil, List.map_append, List.map_append, List.map_cons]
    refine ⟨_, rfl, o, _, rfl, .inr (SqL.of (s1 _ _ TA.lo)), _, rfl, te, _, rfl, .inr (SqL.of (s1 _ _ TA.lt)), _, rfl, _, rfl, sc, _, rfl, .inr (SqL.of (s1 _ _ TA.ls)), ?_, fun L nL => ?_⟩
    · rw [eqs, List.length_map]
      exact Nat.le_of_lt (small1000 rl)
    have Le : L ≠ e := fun z => by
      rw [z, upd_same] at nL
      cases nL
    have nLH : H L = none := by
      rw [upd_ne Le] at nL
      exact nL
    refine ⟨L, rfl, ⟨_, SqL.of upd_same⟩, for_list (K := K) (a := L) (xs := row.map V.str) (fun i σ H2 => ∃ x : Option V, σ = [some (.ref t), some (.ref o), some (.ref te), some (.str hun), some (.ref sc), some (.ref e), x] ∧
      H2 L = some (.lst (row.map V.str)) ∧ H2 e = some (.dK (seenK (row.take i))) ∧ Same H H2) ?_ ?_ ?_ ?_⟩
    · refine ⟨none, rfl, ?_, by rw [upd_ne Le.symm, upd_same]; rfl, fun b u z => ?_⟩
      · rw [upd_same]
        exact congrArg (fun z => some (HO.lst z)) eqs
      · rw [upd_ne (ne_of_none z nLH)]
        exact s1 b u z
    · rintro i σ H2 _ ⟨x, rfl, hL, _⟩
      exact SqL.of hL
    · rintro i y σ H2 hi ⟨x, rfl, hL, he, s2⟩
      obtain ⟨z, hz, rfl⟩ : ∃ z, row[i]? = some z ∧ y = V.str z := by
        rw [List.getElem?_map] at hi
        cases q : row[i]? with
        | none =>
          rw [q] at hi
          cases hi
        | some z =>
          rw [q] at hi
          exact ⟨z, rfl, (Option.some.inj hi).symm⟩
      have hm := List.mem_of_getElem? hz
      have il := (List.getElem?_eq_some_iff.mp hz).1
      have no := seen_no (not_before (by rw [hrow]; exact good.nd) hz)
      have gz : GoodWord z := good.ok z (by rw [← hrow]; exact hm)
      have dg := DGet.k (k := (Sum.inr z : Key)) he
      rw [no] at dg
      refine ⟨_, rfl, _, rfl, e, none, rfl, dg, _, rfl, iteF ?_⟩
      refine ⟨_, rfl, z, rfl, gz, true, rfl, iteF ?_⟩
      have sl : (seenK (row.take i)).length < sizeLine := by
        refine small1000 ?_
        unfold seenK
        rw [List.length_map, List.length_take]
        omega
      refine ⟨_, rfl, _, rfl, e, _, rfl, DPut.k (k := (Sum.inr z : Key)) (v := .bl true) he sl, ?_⟩
      have neL : e ≠ L := Le.symm
      refine ⟨_, rfl, by rw [upd_ne Le]; exact hL, ?_, fun b u q => ?_⟩
      · rw [upd_same, putK_new _ no, List.take_add_one, hz]
        unfold seenK
        rw [List.map_append]
        rfl
      · rw [upd_ne (ne_of_none q ne)]
        exact s2 b u q
    · rintro σ H2 ⟨x, rfl, hL, he, s2⟩
      exact k H2 s2
/-! ### limit -/
def limitOf (scales : List Str) : Int := 1000 * 1000 ^ scales.length
theorem limit_small (n : Nat) (h : n ≤ 901) : (1000 * 1000 ^ n : Int).natAbs < 2 ^ 10000 := by
  have e : (1000 * 1000 ^ n : Int) = ((1000 * 1000 ^ n : Nat) : Int) := by
    rw [Int.natCast_mul, Int.natCast_pow]
    rfl
  rw [e]
  show 1000 * 1000 ^ n < 2 ^ 10000
  have a : (1000 : Nat) ^ n ≤ (2 ^ 10) ^ n := Nat.pow_le_pow_left (by decide) n
  rw [← Nat.pow_mul] at a
  have b : (2 : Nat) ^ (10 * n) ≤ 2 ^ 9010 := Nat.pow_le_pow_right (by decide) (by omega)
  have c : (1000 : Nat) * 2 ^ 9010 ≤ 2 ^ 10 * 2 ^ 9010 := Nat.mul_le_mul_right _ (by decide)
  rw [← Nat.pow_add] at c
  have d : (2 : Nat) ^ 9020 < 2 ^ 10000 := Nat.pow_lt_pow_right (by decide) (by decide)
  have f : 1000 * 1000 ^ n ≤ 1000 * 2 ^ 9010 := Nat.mul_le_mul_left _ (Nat.le_trans a b)
  exact Nat.lt_of_le_of_lt (Nat.le_trans f c) d
/-- top_of: the limit of a table, without a check -/
def spTopOf : Sp := fun vs H Q _ => ∃ (t o te sc : Addr) (ones tens : List Str) (hun : Str) (scales : List Str), vs = [.ref t] ∧ TabAt H t ones tens hun scales o te sc ∧ scales.length ≤ 900 ∧ Q (.int (limitOf scales)) H
theorem scTopOf : FnScope ["table", "top", "_"] ["table"] (defScope sTopOf) := ⟨rfl, rfl, rfl, by decide +kernel, rfl, by decide +kernel, by decide +kernel⟩
theorem ok_topOf {f : Addr} {fd : FuncData} (F : Fun K "top_of" "top_of" sTopOf f fd) : FnOk P w K mg base CX0 1 f fd ["table"] spTopOf := by
  refine F.ok scTopOf (fun vs H Q E h => ?_) (fun cdv A outer s H vs Q E hr h => ?_)
  · obtain ⟨t, o, te, sc, ones, tens, hun, scales, rfl, _⟩ := h
    rfl
  · obtain ⟨t, o, te, sc, ones, tens, hun, scales, rfl, TA, l3, k⟩ := h
    refine ⟨_, pss_cons (ps_set (i := 1) scTopOf.nd rfl (.inl rfl) pe_int)
      (pss_cons (ps_for PassesOwn.never rfl (pi_list (pe_ix ix_tup (pv 0) pe_int (fun _ _ => rfl))) (pg_name (i := 2) scTopOf.nd rfl (.inl rfl))
        (pss_one (ps_set (i := 1) scTopOf.nd rfl (.inl rfl) (pe_op op_mulW (pv 1) pe_int))))
      (pss_one (ps_ret (pv 1)))), ?_⟩
    refine ⟨_, rfl, t, _, _, _, rfl, rfl, SqT.of TA.tup, (rfl : atI [V.ref o, V.ref te, V.str hun, V.ref sc] 3 = some (.ref sc)), sc, rfl, ⟨_, SqL.of TA.ls⟩, ?_⟩
    refine for_list (K := K) (a := sc) (xs := scales.map V.str) (fun i σ H2 => H2 = H ∧ ∃ x : Option V, σ = [some (.ref t), some (.int (1000 * 1000 ^ i)), x]) ⟨rfl, none, rfl⟩ ?_ ?_ ?_
    · rintro i σ H2 _ ⟨rfl, _⟩
      exact SqL.of TA.ls
    · rintro i y σ H2 hi ⟨rfl, x, rfl⟩
      have il : i < scales.length := by
        have z := (List.getElem?_eq_some_iff.mp hi).1
        rw [List.length_map] at z
        exact z
      refine ⟨_, rfl, _, _, rfl, rfl, wide_mul (limit_small i (by omega)) (show (1000 : Int).natAbs < 2 ^ 10 by decide) (by decide) (by decide) (by decide), rfl, some y, ?_⟩
      rw [Int.pow_succ, ← Int.mul_assoc]
      rfl
    · rintro σ H2 ⟨rfl, x, rfl⟩
      rw [List.length_map]
      exact ⟨_, rfl, k⟩
end
end LB
set_option Elab.async false
set_option linter.all false
set_option maxRecDepth 100000
set_option maxHeartbeats 4000000
/-! The program's own: is_word, check_table for any table. -/
namespace LB
open PySem L2 Wk
theorem len_list (x : Str) : x.length = x.cps.toList.length := by
  show x.cps.size = _
  rw [Array.length_toList]
theorem goodB_iff {x : Str} : goodB x = true ↔ GoodWord x := by
  refine ⟨goodB_ok, fun g => ?_⟩
  unfold goodB
  simp only [Bool.and_eq_true, decide_eq_true_eq, List.all_eq_true]
  exact ⟨g.1, g.2.1, fun c hc => g.2.2 c hc⟩
/-- the program's four tests say the same -/
theorem tests_good {x : Str} (h1 : x.length ≤ 20) (h2 : Txt.isascii x = true) (h3 : Txt.isalpha x = true) (h4 : Txt.islower x = true) : GoodWord x := by
  unfold Txt.isascii at h2
  unfold Txt.isalpha at h3
  unfold Txt.islower at h4
  rw [Bool.and_eq_true] at h3 h4
  rw [Array.all_eq_true_iff_forall_mem] at h2
  have h32 := h3.2
  rw [Array.all_eq_true_iff_forall_mem] at h32
  have h42 := h4.2
  rw [Bool.not_eq_true', ← Array.any_toList, List.any_eq_false] at h42
  refine ⟨of_decide_eq_true h3.1, h1, fun c hc => ?_⟩
  have hm : c ∈ x.cps := Array.mem_toList_iff.mp hc
  have c1 : c < 128 := of_decide_eq_true (h2 c hm)
  have z := (chars ⟨c, c1⟩).1
  have a := h32 c hm
  have b := h42 c hc
  simp only [a, Bool.true_and] at z
  have b' : (Unicode.isUpper c || Unicode.isTitle c) = false := Bool.eq_false_iff.mpr b
  rw [b'] at z
  simp only [Bool.not_false] at z
  have z2 := z.symm
  rw [Bool.and_eq_true, decide_eq_true_eq, decide_eq_true_eq] at z2
  exact z2
def spIsWordB : Sp := fun vs H Q _ => ∃ x : Str, vs = [.str x] ∧ x.length ≤ 2000 ∧ Q (.bl (goodB x)) H
section
variable {P : Program} {w : World} {K : PySem.W.Frag} {mg : Str → Option Value} {base : Heap} {E1 E2 : Addr}
theorem ok_isWordB {f : Addr} {fd : FuncData} (F : Fun K "is_word" "is_word" sIsWord f fd) (T : TxtP K mg E1 E2) : FnOk P w K mg base CX0 1 f fd ["text"] spIsWordB := by
  refine F.ok scIsWord (fun vs H Q E h => ?_) (fun cdv A outer s H vs Q E hr h => ?_)
  · obtain ⟨x, rfl, _⟩ := h
    rfl
  · obtain ⟨x, rfl, xl, k⟩ := h
    obtain ⟨tk, mL⟩ := T.long
    refine ⟨_, pss_one (ps_ret (pe_and (pe_cmpR op_le (pe_callB call_len_str (by rfl) T.len PySem.boot_len (pa_cons (pv 0) pa_nil)) (pe_glob (v := .int 20) rfl mL ⟨_, rfl⟩) (nomark _))
      (pe_and (pe_m0 PySem.F.slot_str_isascii PySem.F.type_str_isascii mt_isascii (pv 0))
      (pe_and (pe_m0 PySem.F.slot_str_isalpha PySem.F.type_str_isalpha mt_isalpha (pv 0))
      (pe_one (pe_m0 PySem.F.slot_str_islower PySem.F.type_str_islower mt_islower (pv 0))))))), ?_⟩
    have big : 2000 ≤ sizeLine := by decide
    have no : ¬ GoodWord x → Q (.bl false) H := fun n => by
      have e : goodB x = false := Bool.eq_false_iff.mpr fun z => n (goodB_iff.mp z)
      rw [e] at k
      exact k
    refine ⟨_, rfl, x, rfl, by omega, _, _, rfl, rfl, _, rfl, ?_⟩
    refine ite2 (fun c1 => ?_) (fun c1 => no fun g => c1 (decide_eq_true (by have := g.2.1; omega)))
    have c1' : x.length ≤ 20 := by
      have z := of_decide_eq_true c1
      omega
    refine ⟨_, rfl, ⟨_, rfl⟩, x, rfl, rfl, trivial, _, rfl, ?_⟩
    refine ite2 (fun c2 => ?_) (fun c2 => no fun g => c2 g.tests.1)
    refine ⟨_, rfl, ⟨_, rfl⟩, x, rfl, rfl, trivial, _, rfl, ?_⟩
    refine ite2 (fun c3 => ?_) (fun c3 => no fun g => c3 g.tests.2.1)
    refine ⟨_, rfl, ⟨_, rfl⟩, x, rfl, rfl, trivial, ?_⟩
    cases c4 : Txt.islower x with
    | true =>
      rw [goodB_iff.mpr (tests_good c1' c2 c3 c4)] at k
      exact k
    | false => exact no fun g => by rw [g.tests.2.2] at c4; cases c4
/-! ### check_table -/
/-- the first word that is none, or that stood before -/
def firstBad : List Str → List Str → Option V
  | _, [] => none
  | seen, x :: r => if x ∈ seen ∨ goodB x = false then some (.str x) else firstBad (seen ++ [x]) r
def fault (ones tens : List Str) (hun : Str) (scales : List Str) : Option V :=
  if ones.length ≠ 20 ∨ tens.length ≠ 8 then some .non else firstBad [] (ones ++ (tens ++ hun :: scales))
def spCheckX (C : Addr) : Sp := fun vs H Q E => ∃ (t o te sc : Addr) (ones tens : List Str) (hun : Str) (scales : List Str), vs = [.ref t] ∧ TabAt H t ones tens hun scales o te sc ∧ ones.length ≤ 100 ∧ tens.length ≤ 100 ∧ scales.length ≤ 500 ∧
  (∀ x ∈ ones ++ (tens ++ hun :: scales), x.length ≤ 2000) ∧ (fault ones tens hun scales = none → ∀ H', Same H H' → Q .non H') ∧
  (∀ v, fault ones tens hun scales = some v → ∀ d H', H d = none → Same H H' → H' d = some (.xd [("value", v)]) → E (.ref C) (some d) H')
theorem seen_yes {ws : List Str} {x : Str} : (valV (seenK ws) (Sum.inr x : Key)).isSome = decide (x ∈ ws) := by
  by_cases h : x ∈ ws
  · rw [decide_eq_true h]
    unfold valV seenK
    rw [Option.isSome_map, List.find?_isSome]
    exact ⟨_, List.mem_map.mpr ⟨x, h, rfl⟩, decide_eq_true rfl⟩
  · rw [decide_eq_false h, seen_no h]
    rfl
theorem firstBad_cons (seen r : List Str) (x : Str) : firstBad seen (x :: r) = if x ∈ seen ∨ goodB x = false then some (.str x) else firstBad (seen ++ [x]) r := rfl
theorem firstBad_split : ∀ (a seen b : List Str), firstBad seen a = none → firstBad seen (a ++ b) = firstBad (seen ++ a) b
  | [], seen, b, _ => by rw [List.nil_append, List.append_nil]
  | x :: a, seen, b, h => by
    rw [List.cons_append, firstBad_cons]
    rw [firstBad_cons] at h
    by_cases c : x ∈ seen ∨ goodB x = false
    · rw [if_pos c] at h
      cases h
    · rw [if_neg c] at h ⊢
      rw [firstBad_split a (seen ++ [x]) b h, List.append_assoc]
      rfl
theorem ok_checkX {f fW C fI : Addr} {fd dW dI : FuncData} (F : Fun K "check_table" "check_table" sCheck f fd) (T : TxtP K mg E1 E2)
    (GW : FnOk P w K mg base CX0 1 fW dW ["text"] spIsWordB) (gW : mg "is_word" = some (.ref fW)) (kW : PySem.W.keepIn K (.ref fW) = true) (bW : Binds K dW ["text"] [])
    (FC : ClsF P w K mg base "InvalidTable" C fI dI) : FnOk P w K mg base (L2.CX P w) 3 f fd ["table"] (spCheckX C) := by
  refine F.okX scCheck (fun vs H Q E h => ?_) (fun cdv A outer s H vs Q E hr h => ?_)
  · obtain ⟨t, o, te, sc, ones, tens, hun, scales, rfl, _⟩ := h
    rfl
  · obtain ⟨t, o, te, sc, ones, tens, hun, scales, rfl, TA, l1, l2, l3, short, k, kE⟩ := h
    obtain ⟨xs1, xl1, q1⟩ := T.e1
    obtain ⟨xs2, xl2, q2⟩ := T.e2
    have hu := hu_of hr
    have hr1 : Room 1 _ := hr.mono (by decide)
    refine ⟨_, pss_cons (ps_asg (pv 0) (pg_tup (by rfl) (pgs_cons (pg_name (i := 1) scCheck.nd rfl (.inl rfl)) (pgs_cons (pg_name (i := 2) scCheck.nd rfl (.inl rfl)) (pgs_cons (pg_name (i := 3) scCheck.nd rfl (.inl rfl)) (pgs_cons (pg_name (i := 4) scCheck.nd rfl (.inl rfl)) pgs_nil))))))
      (pss_cons (ps_if (PW.pt (pw_or (pt_cmpR op_ne (pe_callB call_len_seq (by rfl) T.len PySem.boot_len (pa_cons (pv 1) pa_nil)) (pe_callB call_len_seq (by rfl) T.len PySem.boot_len (pa_cons (pe_glob (v := .ref E1) rfl T.g1 rfl) pa_nil)) (nomark _))
          (pw_or1 (pt_cmpR op_ne (pe_callB call_len_seq (by rfl) T.len PySem.boot_len (pa_cons (pv 2) pa_nil)) (pe_callB call_len_seq (by rfl) T.len PySem.boot_len (pa_cons (pe_glob (v := .ref E2) rfl T.g2 rfl) pa_nil)) (nomark _)))))
        (pss_one (ps_raiseV FC hr rfl (takes_of rfl rfl rfl rfl) rfl pe_non)) pss_nil)
      (pss_cons (ps_set (i := 5) scCheck.nd rfl (.inl rfl) pe_dnewK)
      (pss_one (ps_for (PassesOwn.leaving) rfl (pi_list (pe_lst (StX.pa_star (pv 1) (StX.pa_star (pv 2) (pa_cons (pv 3) (StX.pa_star (pv 4) pa_nil)))))) (pg_name (i := 6) scCheck.nd rfl (.inl rfl))
        (pss_cons (ps_if (PW.pt (pw_or (pt_cmp (pc_din hu (pv 6) (pv 5))) (pw_or1 (pt_not (pt_val (pe_call GW hr1 (by rfl) gW kW bW .nil pass0 (pa_cons (pv 6) pa_nil)))))))
          (pss_one (ps_raiseV FC hr rfl (takes_of rfl rfl rfl rfl) rfl (pv 6))) pss_nil)
        (pss_one (ps_dput hu (pv 5) (pv 6) pe_bl rfl))))))), ?_⟩
    have wrong : ¬ (ones.length = 20 ∧ tens.length = 8) → fault ones tens hun scales = some .non := fun n => by
      unfold fault
      rw [if_pos]
      by_cases c : ones.length = 20
      · exact .inr fun z => n ⟨c, z⟩
      · exact .inl c
    refine ⟨_, rfl, t, _, rfl, SqT.of TA.tup, rfl, _, _, rfl, _, _, rfl, _, _, rfl, _, _, rfl, rfl, ?_⟩
    refine ⟨_, rfl, o, _, rfl, .inl (SqL.of TA.lo), E1, xs1, rfl, .inr (q1 _), rfl, _, rfl, ?_⟩
    rw [List.length_map, xl1]
    refine ite2 (fun c1 => ?_) (fun c1 => ?_)
    · refine iteT (mk_read fun d H' n s e => kE _ (wrong ?_) d H' n s e)
      rintro ⟨z, _⟩
      rw [z] at c1
      exact absurd c1 (by decide)
    have o20 : ones.length = 20 := by
      have z : decide (V.int ((ones.length : Nat) : Int) = V.int ((20 : Nat) : Int)) = true := by
        cases q : decide (V.int ((ones.length : Nat) : Int) = V.int ((20 : Nat) : Int)) with
        | true => rfl
        | false =>
          rw [q] at c1
          exact absurd rfl c1
      have z2 := V.int.inj (of_decide_eq_true z)
      omega
    refine ⟨_, rfl, te, _, rfl, .inl (SqL.of TA.lt), E2, xs2, rfl, .inr (q2 _), rfl, _, rfl, ?_⟩
    rw [List.length_map, xl2]
    refine ite2 (fun c2 => ?_) (fun c2 => ?_)
    · refine mk_read fun d H' n s e => kE _ (wrong ?_) d H' n s e
      rintro ⟨_, z⟩
      rw [z] at c2
      exact absurd c2 (by decide)
    have t8 : tens.length = 8 := by
      have z : decide (V.int ((tens.length : Nat) : Int) = V.int ((8 : Nat) : Int)) = true := by
        cases q : decide (V.int ((tens.length : Nat) : Int) = V.int ((8 : Nat) : Int)) with
        | true => rfl
        | false =>
          rw [q] at c2
          exact absurd rfl c2
      have z2 := V.int.inj (of_decide_eq_true z)
      omega
    intro e ne
    obtain ⟨row, hrow⟩ : ∃ row, row = ones ++ (tens ++ hun :: scales) := ⟨_, rfl⟩
    have hf : fault ones tens hun scales = firstBad [] row := by
      unfold fault
      rw [if_neg (fun z => z.elim (fun z => z o20) (fun z => z t8)), hrow]
    have rl : row.length ≤ 1000 := by
      rw [hrow, List.length_append, List.length_append, List.length_cons]
      omega
    have s1 : Same H (upd H e (.dK [])) := fun b u z => by
      rw [upd_ne (ne_of_none z ne)]
      exact z
    have eqs : ones.map V.str ++ (tens.map V.str ++ V.str hun :: (scales.map V.str ++ [])) = row.map V.str := by
      rw [hrow, List.append_nil, List.map_append, List.map_append, List.map_cons]
    refine ⟨_, rfl, o, _, rfl, .inr (SqL.of (s1 _ _ TA.lo)), _, rfl, te, _, rfl, .inr (SqL.of (s1 _ _ TA.lt)), _, rfl, _, rfl, sc, _, rfl, .inr (SqL.of (s1 _ _ TA.ls)), ?_, fun L nL => ?_⟩
    · rw [eqs, List.length_map]
      exact Nat.le_of_lt (small1000 rl)
    have Le : L ≠ e := fun z => by
      rw [z, upd_same] at nL
      cases nL
    have nLH : H L = none := by
      rw [upd_ne Le] at nL
      exact nL
    refine ⟨L, rfl, ⟨_, SqL.of upd_same⟩, for_list (K := K) (a := L) (xs := row.map V.str) (fun i σ H2 => ∃ x : Option V, σ = [some (.ref t), some (.ref o), some (.ref te), some (.str hun), some (.ref sc), some (.ref e), x] ∧
      H2 L = some (.lst (row.map V.str)) ∧ H2 e = some (.dK (seenK (row.take i))) ∧ firstBad [] (row.take i) = none ∧ Same H H2) ?_ ?_ ?_ ?_⟩
    · refine ⟨none, rfl, ?_, by rw [upd_ne Le.symm, upd_same]; rfl, rfl, fun b u z => ?_⟩
      · rw [upd_same]
        exact congrArg (fun z => some (HO.lst z)) eqs
      · rw [upd_ne (ne_of_none z nLH)]
        exact s1 b u z
    · rintro i σ H2 _ ⟨x, rfl, hL, _⟩
      exact SqL.of hL
    · rintro i y σ H2 hi ⟨x, rfl, hL, he, fb, s2⟩
      obtain ⟨z, hz, rfl⟩ : ∃ z, row[i]? = some z ∧ y = V.str z := by
        rw [List.getElem?_map] at hi
        cases q : row[i]? with
        | none =>
          rw [q] at hi
          cases hi
        | some z =>
          rw [q] at hi
          exact ⟨z, rfl, (Option.some.inj hi).symm⟩
      have il := (List.getElem?_eq_some_iff.mp hz).1
      have next : row = row.take i ++ z :: row.drop (i + 1) := by
        obtain ⟨h1, h2⟩ := List.getElem?_eq_some_iff.mp hz
        have q := List.take_append_drop i row
        rw [List.drop_eq_getElem_cons h1, h2] at q
        exact q.symm
      have hfz : z ∈ row.take i ∨ goodB z = false → fault ones tens hun scales = some (.str z) := fun c => by
        rw [hf, next, firstBad_split _ _ _ fb, List.nil_append, firstBad_cons, if_pos c]
      have dg := DGet.k (k := (Sum.inr z : Key)) he
      refine ⟨_, rfl, _, rfl, e, _, rfl, dg, _, rfl, ?_⟩
      rw [seen_yes]
      refine ite2 (fun c3 => ?_) (fun c3 => ?_)
      · refine iteT ⟨_, rfl, ?_⟩
        exact mk_read fun d H' n s q => kE _ (hfz (.inl (of_decide_eq_true c3))) d H' (s2.free n) (s2.trans s) q
      have c3' : ¬ z ∈ row.take i := fun m => c3 (decide_eq_true m)
      refine ⟨_, rfl, z, rfl, short z (by rw [← hrow]; exact List.mem_of_getElem? hz), _, rfl, ?_⟩
      cases gz : goodB z with
      | false =>
        refine iteT ⟨_, rfl, ?_⟩
        exact mk_read fun d H' n s q => kE _ (hfz (.inr gz)) d H' (s2.free n) (s2.trans s) q
      | true =>
        refine iteF ?_
        have sl : (seenK (row.take i)).length < sizeLine := by
          refine small1000 ?_
          unfold seenK
          rw [List.length_map, List.length_take]
          omega
        refine ⟨_, rfl, _, rfl, e, _, rfl, DPut.k (k := (Sum.inr z : Key)) (v := .bl true) he sl, ?_⟩
        refine ⟨_, rfl, by rw [upd_ne Le]; exact hL, ?_, ?_, fun b u q => ?_⟩
        · rw [upd_same, putK_new _ (seen_no c3'), List.take_add_one, hz]
          unfold seenK
          rw [List.map_append]
          rfl
        · rw [List.take_add_one, hz]
          show firstBad [] (row.take i ++ [z]) = none
          rw [firstBad_split _ _ _ fb, List.nil_append, firstBad_cons, if_neg]
          · rfl
          · rintro (m | m)
            · exact c3' m
            · rw [gz] at m
              cases m
        · rw [upd_ne (ne_of_none q ne)]
          exact s2 b u q
    · rintro σ H2 ⟨x, rfl, hL, he, fb, s2⟩
      rw [List.length_map, List.take_length] at fb
      exact k (hf.trans fb) H2 s2
end
end LB
set_option Elab.async false
set_option linter.all false
set_option maxRecDepth 100000
set_option maxHeartbeats 4000000
/-! The program's own: limit for any table. -/
namespace LB
open PySem L2 Wk
def spLimitX (C : Addr) : Sp := fun vs H Q E => ∃ (t o te sc : Addr) (ones tens : List Str) (hun : Str) (scales : List Str), vs = [.ref t] ∧ TabAt H t ones tens hun scales o te sc ∧ ones.length ≤ 100 ∧ tens.length ≤ 100 ∧ scales.length ≤ 500 ∧
  (∀ x ∈ ones ++ (tens ++ hun :: scales), x.length ≤ 2000) ∧ (fault ones tens hun scales = none → ∀ H', Same H H' → Q (.int (limitOf scales)) H') ∧
  (∀ v, fault ones tens hun scales = some v → ∀ d H', H d = none → Same H H' → H' d = some (.xd [("value", v)]) → E (.ref C) (some d) H')
section
variable {P : Program} {w : World} {K : PySem.W.Frag} {mg : Str → Option Value} {base : Heap}
/-- no fault: a table with its 29 or more words -/
theorem firstBad_none : ∀ {l seen : List Str}, firstBad seen l = none → (∀ x ∈ l, GoodWord x) ∧ (seen.Nodup → (seen ++ l).Nodup)
  | [], seen, _ => ⟨(fun x hx => nomatch hx), fun h => by rw [List.append_nil]; exact h⟩
  | x :: l, seen, h => by
    rw [firstBad_cons] at h
    by_cases c : x ∈ seen ∨ goodB x = false
    · rw [if_pos c] at h
      cases h
    · rw [if_neg c] at h
      obtain ⟨h1, h2⟩ := firstBad_none h
      have gx : GoodWord x := goodB_ok (by cases e : goodB x with
        | true => rfl
        | false => exact absurd (.inr e) c)
      refine ⟨fun y hy => ?_, fun hn => ?_⟩
      · rcases List.mem_cons.mp hy with rfl | hy
        · exact gx
        · exact h1 y hy
      · have e : seen ++ x :: l = seen ++ [x] ++ l := by rw [List.append_assoc]; rfl
        rw [e]
        refine h2 (List.nodup_append.mpr ⟨hn, List.pairwise_singleton _ _, fun a ha b hb => ?_⟩)
        rw [List.mem_singleton.mp hb]
        intro z
        exact c (.inl (z ▸ ha))
theorem fault_none {ones tens : List Str} {hun : Str} {scales : List Str} (h : fault ones tens hun scales = none) : ones.length = 20 ∧ tens.length = 8 ∧ GoodRow (ones ++ (tens ++ hun :: scales)) := by
  unfold fault at h
  split at h
  · cases h
  · rename_i c
    obtain ⟨h1, h2⟩ := firstBad_none h
    refine ⟨?_, ?_, ⟨by simpa using h2 List.nodup_nil, h1⟩⟩ <;> omega
end
end LB
set_option Elab.async false
set_option linter.all false
set_option maxRecDepth 100000
set_option maxHeartbeats 4000000
/-! The mathematics of beginnings: how many numbers of a range have names that begin so. -/
namespace Bg
/-- the numbers from a to e - 1 that lie from lo to hi, as the program counts them -/
def mx (n m : Int) : Int := if m > n then m else n
def mn (n m : Int) : Int := if m < n then m else n
def ov (lo hi a e : Int) : Int := mx 0 (mn (e - 1) hi - mx a lo + 1)
/-- how many of lo .. hi are below x -/
def fb (lo hi x : Int) : Int := mx 0 (mn x (hi + 1) - lo)
theorem ov_fb {lo hi a e : Int} (h : a ≤ e) : ov lo hi a e = fb lo hi e - fb lo hi a := by
  unfold ov fb mx mn
  repeat' split
  all_goals omega
theorem fb_mono {lo hi a e : Int} (h : a ≤ e) : fb lo hi a ≤ fb lo hi e := by
  unfold fb mx mn
  repeat' split
  all_goals omega
theorem fb_one {lo hi x : Int} (h : lo ≤ hi) : fb lo hi (x + 1) - fb lo hi x = if lo ≤ x ∧ x ≤ hi then 1 else 0 := by
  unfold fb mx mn
  repeat' split
  all_goals omega
theorem fb_low {lo hi x : Int} (h : x ≤ lo) : fb lo hi x = 0 := by
  unfold fb mx mn
  repeat' split
  all_goals omega
theorem fb_high {lo hi x : Int} (h : hi < x) (l : lo ≤ hi) : fb lo hi x = hi - lo + 1 := by
  unfold fb mx mn
  repeat' split
  all_goals omega
theorem fb_same {lo hi a e : Int} (h : a ≤ e) (c : hi < a ∨ e ≤ lo) : fb lo hi e - fb lo hi a = 0 := by
  unfold fb mx mn
  repeat' split
  all_goals omega
/-! ### sums -/
def sumR (f : Nat → Int) : Nat → Int
  | 0 => 0
  | n + 1 => sumR f n + f n
def sumL {α : Type} (f : α → Int) : List α → Int
  | [] => 0
  | x :: l => f x + sumL f l
theorem sumR_add (f g : Nat → Int) : ∀ n, sumR (fun j => f j + g j) n = sumR f n + sumR g n
  | 0 => rfl
  | n + 1 => by
    show sumR (fun j => f j + g j) n + (f n + g n) = (sumR f n + f n) + (sumR g n + g n)
    rw [sumR_add f g n]
    omega
theorem sumR_zero : ∀ n, sumR (fun _ => 0) n = 0
  | 0 => rfl
  | n + 1 => by
    show sumR (fun _ => 0) n + 0 = 0
    rw [sumR_zero n]
    rfl
theorem sumR_congr {f g : Nat → Int} : ∀ n, (∀ j, j < n → f j = g j) → sumR f n = sumR g n
  | 0, _ => rfl
  | n + 1, h => by
    show sumR f n + f n = sumR g n + g n
    rw [sumR_congr n fun j hj => h j (Nat.lt_succ_of_lt hj), h n (Nat.lt_succ_self n)]
theorem sumR_nonneg {f : Nat → Int} : ∀ n, (∀ j, j < n → 0 ≤ f j) → 0 ≤ sumR f n
  | 0, _ => Int.le_refl 0
  | n + 1, h => by
    have a := sumR_nonneg n fun j hj => h j (Nat.lt_succ_of_lt hj)
    have b := h n (Nat.lt_succ_self n)
    show 0 ≤ sumR f n + f n
    omega
theorem sumR_tel (f : Nat → Int) : ∀ n, sumR (fun j => f (j + 1) - f j) n = f n - f 0
  | 0 => by
    show (0 : Int) = f 0 - f 0
    omega
  | n + 1 => by
    show sumR (fun j => f (j + 1) - f j) n + (f (n + 1) - f n) = f (n + 1) - f 0
    rw [sumR_tel f n]
    omega
theorem sumL_append {α : Type} (f : α → Int) : ∀ a b : List α, sumL f (a ++ b) = sumL f a + sumL f b
  | [], b => by
    show sumL f b = 0 + sumL f b
    omega
  | x :: a, b => by
    show f x + sumL f (a ++ b) = f x + sumL f a + sumL f b
    rw [sumL_append f a b]
    omega
theorem sumL_perm {α : Type} (f : α → Int) {a b : List α} (h : a.Perm b) : sumL f a = sumL f b := by
  induction h with
  | nil => rfl
  | cons x _ ih => exact congrArg (f x + ·) ih
  | swap x y l =>
    show f y + (f x + sumL f l) = f x + (f y + sumL f l)
    omega
  | trans _ _ h1 h2 => exact h1.trans h2
theorem sumL_map {α β : Type} (g : α → β) (f : β → Int) : ∀ l : List α, sumL f (l.map g) = sumL (fun x => f (g x)) l
  | [] => rfl
  | x :: l => congrArg (f (g x) + ·) (sumL_map g f l)
theorem sumL_congr {α : Type} {f g : α → Int} : ∀ l : List α, (∀ x ∈ l, f x = g x) → sumL f l = sumL g l
  | [], _ => rfl
  | x :: l, h => by
    show f x + sumL f l = g x + sumL g l
    rw [h x List.mem_cons_self, sumL_congr l fun y hy => h y (List.mem_cons_of_mem _ hy)]
theorem sumL_zero {α : Type} {f : α → Int} (l : List α) (h : ∀ x ∈ l, f x = 0) : sumL f l = 0 := by
  induction l with
  | nil => rfl
  | cons x l ih =>
    show f x + sumL f l = 0
    rw [h x List.mem_cons_self, ih fun y hy => h y (List.mem_cons_of_mem _ hy)]
    rfl
theorem sumL_nonneg {α : Type} {f : α → Int} : ∀ l : List α, (∀ x ∈ l, 0 ≤ f x) → 0 ≤ sumL f l
  | [], _ => Int.le_refl 0
  | x :: l, h => by
    have a := h x List.mem_cons_self
    have b := sumL_nonneg l fun y hy => h y (List.mem_cons_of_mem _ hy)
    show 0 ≤ f x + sumL f l
    omega
theorem sumL_swap {α : Type} (f : α → Nat → Int) (n : Nat) : ∀ l : List α, sumL (fun x => sumR (f x) n) l = sumR (fun j => sumL (fun x => f x j) l) n
  | [] => (sumR_zero n).symm
  | x :: l => by
    show sumR (f x) n + sumL (fun x => sumR (f x) n) l = sumR (fun j => f x j + sumL (fun x => f x j) l) n
    rw [sumR_add, sumL_swap f n l]
theorem sumL_range (f : Nat → Int) : ∀ n, sumL f (List.range n) = sumR f n
  | 0 => rfl
  | n + 1 => by
    rw [List.range_succ, sumL_append, sumL_range f n]
    show sumR f n + (f n + 0) = sumR f n + f n
    omega
/-! ### beginnings -/
/-- (total, group, room, top = 1000 ^ m) -/
structure Bg where
  t : Int
  g : Int
  r : Int
  m : Nat
def W (j : Nat) : Int := 1000 ^ j
theorem W_pos (j : Nat) : 0 < W j := Int.pow_pos (by decide)
theorem W_succ (j : Nat) : W (j + 1) = 1000 * W j := by
  show (1000 : Int) ^ (j + 1) = 1000 * 1000 ^ j
  rw [Int.pow_succ, Int.mul_comm]
theorem W_le {i j : Nat} (h : i ≤ j) : W i ≤ W j := by
  induction h with
  | refl => exact Int.le_refl _
  | step _ ih =>
    rw [W_succ]
    have := W_pos i
    omega
theorem W_lt {i j : Nat} (h : i < j) : 1000 * W i ≤ W j := by
  rw [← W_succ]
  exact W_le h
theorem W_inj {i j : Nat} : W i < W j ↔ i < j := by
  constructor
  · intro h
    rcases Nat.lt_or_ge i j with z | z
    · exact z
    · have := W_le z
      omega
  · intro h
    have a := W_lt h
    have b := W_pos i
    omega
/-- the beginnings that occur -/
def Ok (b : Bg) : Prop := 0 ≤ b.t ∧ ((b.t = 0 ∧ b.g = 0 ∧ b.r = 1 ∧ b.m = 0) ∨ (0 < b.m ∧ (
  (b.g = 0 ∧ b.r = 100) ∨ (1 ≤ b.g ∧ b.g ≤ 9 ∧ b.r = 1) ∨ (∃ d : Int, 1 ≤ d ∧ d ≤ 9 ∧ b.g = 100 * d ∧ b.r = 100) ∨
  (∃ h k : Int, 0 ≤ h ∧ h ≤ 9 ∧ 2 ≤ k ∧ k ≤ 9 ∧ b.g = 100 * h + 10 * k ∧ b.r = 10) ∨ (10 ≤ b.g ∧ b.g ≤ 999 ∧ b.r = 1))))
def has (b : Bg) : Bool := decide (b.t + b.g > 0) || decide (b.r = 1)
def zero : Bg := ⟨0, 0, 1, 0⟩
/-- a word's worth: a number below 100 that has a word, 100, or 1000 ^ (i + 1) -/
inductive Wo where
  | low (n : Int)
  | hun
  | sc (i : Nat)
def Wo.val : Wo → Int
  | .low n => n
  | .hun => 100
  | .sc i => W (i + 1)
def Wo.Ok : Wo → Prop
  | .low n => 0 ≤ n ∧ n < 100
  | .hun => True
  | .sc _ => True
def fol (b : Bg) : Wo → Option Bg
  | .low n =>
    if n = 0 then (if has b then none else some zero)
    else if n ≥ 10 then (if b.r = 100 then some ⟨b.t, b.g + n, if n ≥ 20 then 10 else 1, b.m⟩ else none)
    else if b.r ≥ 10 then some ⟨b.t, b.g + n, 1, b.m⟩ else none
  | .hun => if 0 < b.g ∧ b.g < 10 then some ⟨b.t, b.g * 100, 100, b.m⟩ else none
  | .sc i => if b.g > 0 ∧ i + 1 < b.m then some ⟨b.t + b.g * W (i + 1), 0, 100, i + 1⟩ else none
/-- one scale's share -/
def cj (G : Int → Int) (g r : Int) : Int := (G (g + r) - G g) + if g < 10 then G ((g + 1) * 100) - G (g * 100) else 0
def cf (F : Int → Int) (b : Bg) : Int := if b.g = 0 then F (b.t + W b.m) - F b.t else sumR (fun j => cj (fun n => F (b.t + n * W j)) b.g b.r) b.m
def own (F : Int → Int) (b : Bg) : Int := if has b then F (b.t + b.g + 1) - F (b.t + b.g) else 0
def cfo (F : Int → Int) (b : Bg) (x : Wo) : Int := match fol b x with
  | none => 0
  | some c => cf F c
def lows : List Wo := (List.range 20).map fun n : Nat => .low (n : Int)
def tens : List Wo := (List.range 8).map fun n : Nat => .low (10 * ((n : Int) + 2))
def scs (k : Nat) : List Wo := (List.range k).map fun i => .sc i
def all (k : Nat) : List Wo := .hun :: (lows ++ (tens ++ scs k))
theorem scales_sum {F : Int → Int} {b : Bg} {k : Nat} (hg : 0 < b.g) (hm : 0 < b.m) (hk : b.m ≤ k + 1) :
    F (b.t + b.g + 1) - F (b.t + b.g) + sumL (cfo F b) (scs k) = sumR (fun j => F (b.t + (b.g + 1) * W j) - F (b.t + b.g * W j)) b.m := by
  unfold scs
  rw [sumL_map, sumL_range]
  obtain ⟨m, hm'⟩ : ∃ m, b.m = m + 1 := ⟨b.m - 1, by omega⟩
  have one : ∀ i, cfo F b (.sc i) = if i < m then F (b.t + (b.g + 1) * W (i + 1)) - F (b.t + b.g * W (i + 1)) else 0 := by
    intro i
    unfold cfo fol
    by_cases h : i < m
    · rw [if_pos h]
      simp only
      rw [if_pos ⟨hg, by omega⟩]
      show cf F ⟨b.t + b.g * W (i + 1), 0, 100, i + 1⟩ = _
      unfold cf
      rw [if_pos rfl]
      show F (b.t + b.g * W (i + 1) + W (i + 1)) - F (b.t + b.g * W (i + 1)) = _
      rw [Int.add_mul, Int.one_mul, Int.add_assoc]
    · rw [if_neg h]
      simp only
      rw [if_neg (by omega)]
  have cut : ∀ n, sumR (fun i => cfo F b (.sc i)) n = sumR (fun j => F (b.t + (b.g + 1) * W (j + 1)) - F (b.t + b.g * W (j + 1))) (if n < m then n else m) := by
    intro n
    induction n with
    | zero =>
      by_cases h : 0 < m
      · rw [if_pos h]
        rfl
      · rw [if_neg h, show m = 0 by omega]
        rfl
    | succ n ih =>
      show sumR (fun i => cfo F b (.sc i)) n + cfo F b (.sc n) = _
      rw [ih, one]
      by_cases h : n < m
      · rw [if_pos h, if_pos h]
        by_cases h2 : n + 1 < m
        · rw [if_pos h2]
          rfl
        · rw [if_neg h2, show m = n + 1 by omega]
          rfl
      · rw [if_neg h, if_neg h, if_neg (by omega)]
        omega
  rw [show (fun x => cfo F b (Wo.sc x)) = (fun i => cfo F b (.sc i)) from rfl, cut k, show (if k < m then k else m) = m by split <;> omega, hm']
  generalize hf : (fun j => F (b.t + (b.g + 1) * W j) - F (b.t + b.g * W j)) = f
  have e0 : F (b.t + b.g + 1) - F (b.t + b.g) = f 0 := by
    rw [← hf]
    show _ = F (b.t + (b.g + 1) * 1) - F (b.t + b.g * 1)
    rw [Int.mul_one, Int.mul_one, Int.add_assoc]
  have e1 : (fun j => F (b.t + (b.g + 1) * W (j + 1)) - F (b.t + b.g * W (j + 1))) = fun j => f (j + 1) := by
    rw [← hf]
  rw [e0, e1]
  clear cut one e1 e0
  induction m generalizing b with
  | zero =>
    show f 0 + 0 = 0 + f 0
    omega
  | succ n ih =>
    clear ih hf
    have st : ∀ n, f 0 + sumR (fun j => f (j + 1)) n = sumR f (n + 1) := by
      intro n
      induction n with
      | zero =>
        show f 0 + 0 = 0 + f 0
        omega
      | succ n ih =>
        show f 0 + (sumR (fun j => f (j + 1)) n + f (n + 1)) = sumR f (n + 1) + f (n + 1)
        rw [← ih]
        omega
    exact st (n + 1)
theorem scales_none {F : Int → Int} {b : Bg} {k : Nat} (hg : b.g = 0 ∨ b.m = 0) : sumL (cfo F b) (scs k) = 0 := by
  refine sumL_zero _ fun x hx => ?_
  obtain ⟨i, _, rfl⟩ := List.mem_map.mp hx
  unfold cfo fol
  simp only
  rw [if_neg (by omega)]
/-- the children below hundred and hundred, as pairs (group, room), where they are -/
theorem cf_pos {F : Int → Int} {b : Bg} (h : b.g ≠ 0) : cf F b = sumR (fun j => cj (fun n => F (b.t + n * W j)) b.g b.r) b.m := if_neg h
/-- one scale's share of a word behind b -/
def cjo (F : Int → Int) (b : Bg) (x : Wo) (j : Nat) : Int := match fol b x with
  | none => 0
  | some c => cj (fun n => F (b.t + n * W j)) c.g c.r
def dig : List Wo := [.low 1, .low 2, .low 3, .low 4, .low 5, .low 6, .low 7, .low 8, .low 9]
def teen : List Wo := [.low 10, .low 11, .low 12, .low 13, .low 14, .low 15, .low 16, .low 17, .low 18, .low 19]
def tens1 : List Wo := [.low 20, .low 30, .low 40, .low 50, .low 60, .low 70, .low 80, .low 90]
theorem lows_is : lows = .low 0 :: (dig ++ teen) := rfl
theorem tens_is : tens = tens1 := rfl
/-- a word below hundred but 0, or hundred -/
def Sub : Wo → Prop
  | .low n => 0 < n
  | .hun => True
  | .sc _ => False
theorem cfo_sub {F : Int → Int} {b : Bg} {x : Wo} (h0 : 0 ≤ b.g) (hx : Sub x) : cfo F b x = sumR (cjo F b x) b.m := by
  unfold cfo cjo
  cases x with
  | sc i => exact hx.elim
  | hun =>
    unfold fol
    simp only
    by_cases c : 0 < b.g ∧ b.g < 10
    · rw [if_pos c]
      simp only
      rw [cf_pos (show b.g * 100 ≠ 0 by omega)]
    · rw [if_neg c]
      exact (sumR_zero _).symm
  | low n =>
    have n0 : 0 < n := hx
    unfold fol
    simp only
    rw [if_neg (by omega)]
    by_cases c : n ≥ 10
    · rw [if_pos c]
      by_cases d : b.r = 100
      · rw [if_pos d]
        simp only
        rw [cf_pos (show b.g + n ≠ 0 by omega)]
      · rw [if_neg d]
        exact (sumR_zero _).symm
    · rw [if_neg c]
      by_cases d : b.r ≥ 10
      · rw [if_pos d]
        simp only
        rw [cf_pos (show b.g + n ≠ 0 by omega)]
      · rw [if_neg d]
        exact (sumR_zero _).symm
theorem subs_sum {F : Int → Int} {b : Bg} (h0 : 0 ≤ b.g) {l : List Wo} (hl : ∀ x ∈ l, Sub x) : sumL (cfo F b) l = sumR (fun j => sumL (fun x => cjo F b x j) l) b.m := by
  rw [← sumL_swap]
  exact sumL_congr l fun x hx => cfo_sub h0 (hl x hx)
theorem cjo_dig {F : Int → Int} {b : Bg} {n : Int} {j : Nat} (h1 : 0 < n) (h2 : n < 10) (hr : b.r ≥ 10) : cjo F b (.low n) j = cj (fun n => F (b.t + n * W j)) (b.g + n) 1 := by
  unfold cjo fol
  simp only
  rw [if_neg (by omega), if_neg (by omega), if_pos hr]
theorem cjo_dig0 {F : Int → Int} {b : Bg} {n : Int} {j : Nat} (h1 : 0 < n) (h2 : n < 10) (hr : ¬ b.r ≥ 10) : cjo F b (.low n) j = 0 := by
  unfold cjo fol
  simp only
  rw [if_neg (by omega), if_neg (by omega), if_neg hr]
theorem cjo_ten {F : Int → Int} {b : Bg} {n : Int} {j : Nat} (h1 : 10 ≤ n) (hr : b.r = 100) : cjo F b (.low n) j = cj (fun n => F (b.t + n * W j)) (b.g + n) (if n ≥ 20 then 10 else 1) := by
  unfold cjo fol
  simp only
  rw [if_neg (by omega), if_pos h1, if_pos hr]
theorem cjo_ten0 {F : Int → Int} {b : Bg} {n : Int} {j : Nat} (h1 : 10 ≤ n) (hr : ¬ b.r = 100) : cjo F b (.low n) j = 0 := by
  unfold cjo fol
  simp only
  rw [if_neg (by omega), if_pos h1, if_neg hr]
theorem cjo_hun {F : Int → Int} {b : Bg} {j : Nat} (h1 : 0 < b.g) (h2 : b.g < 10) : cjo F b .hun j = cj (fun n => F (b.t + n * W j)) (b.g * 100) 100 := by
  unfold cjo fol
  simp only
  rw [if_pos ⟨h1, h2⟩]
theorem cjo_hun0 {F : Int → Int} {b : Bg} {j : Nat} (h : ¬ (0 < b.g ∧ b.g < 10)) : cjo F b .hun j = 0 := by
  unfold cjo fol
  simp only
  rw [if_neg h]
theorem cj_big {G : Int → Int} {g r : Int} (h : ¬ g < 10) : cj G g r = G (g + r) - G g := by
  unfold cj
  rw [if_neg h]
  omega
theorem cj_small {G : Int → Int} {g r : Int} (h : g < 10) : cj G g r = (G (g + r) - G g) + (G ((g + 1) * 100) - G (g * 100)) := by
  unfold cj
  rw [if_pos h]
/-- nine digits behind g -/
theorem dig_sum {F : Int → Int} {b : Bg} {j : Nat} (hg : 10 ≤ b.g) (hr : b.r ≥ 10) : sumL (fun x => cjo F b x j) dig = F (b.t + (b.g + 10) * W j) - F (b.t + (b.g + 1) * W j) := by
  have one : ∀ n : Int, 0 < n → n < 10 → cjo F b (.low n) j = F (b.t + (b.g + (n + 1)) * W j) - F (b.t + (b.g + n) * W j) := by
    intro n h1 h2
    rw [cjo_dig h1 h2 hr, cj_big (by omega)]
    simp only [Int.add_assoc]
  unfold dig
  simp only [sumL]
  rw [one 1 (by decide) (by decide), one 2 (by decide) (by decide), one 3 (by decide) (by decide), one 4 (by decide) (by decide), one 5 (by decide) (by decide), one 6 (by decide) (by decide), one 7 (by decide) (by decide), one 8 (by decide) (by decide), one 9 (by decide) (by decide)]
  simp only [Int.reduceAdd]
  omega
theorem dig_sum0 {F : Int → Int} {b : Bg} {j : Nat} (hg : b.g = 0) (hr : b.r ≥ 10) : sumL (fun x => cjo F b x j) dig = (F (b.t + 10 * W j) - F (b.t + 1 * W j)) + (F (b.t + 1000 * W j) - F (b.t + 100 * W j)) := by
  have one : ∀ n : Int, 0 < n → n < 10 → cjo F b (.low n) j = (F (b.t + (n + 1) * W j) - F (b.t + n * W j)) + (F (b.t + ((n + 1) * 100) * W j) - F (b.t + (n * 100) * W j)) := by
    intro n h1 h2
    rw [cjo_dig h1 h2 hr, cj_small (by omega), hg]
    simp only [Int.zero_add]
  unfold dig
  simp only [sumL]
  rw [one 1 (by decide) (by decide), one 2 (by decide) (by decide), one 3 (by decide) (by decide), one 4 (by decide) (by decide), one 5 (by decide) (by decide), one 6 (by decide) (by decide), one 7 (by decide) (by decide), one 8 (by decide) (by decide), one 9 (by decide) (by decide)]
  simp only [Int.reduceAdd, Int.reduceMul]
  omega
theorem teen_sum {F : Int → Int} {b : Bg} {j : Nat} (hg : 0 ≤ b.g) (hr : b.r = 100) : sumL (fun x => cjo F b x j) teen = F (b.t + (b.g + 20) * W j) - F (b.t + (b.g + 10) * W j) := by
  have one : ∀ n : Int, 10 ≤ n → n < 20 → cjo F b (.low n) j = F (b.t + (b.g + (n + 1)) * W j) - F (b.t + (b.g + n) * W j) := by
    intro n h1 h2
    rw [cjo_ten h1 hr, if_neg (by omega), cj_big (by omega)]
    simp only [Int.add_assoc]
  unfold teen
  simp only [sumL]
  rw [one 10 (by decide) (by decide), one 11 (by decide) (by decide), one 12 (by decide) (by decide), one 13 (by decide) (by decide), one 14 (by decide) (by decide), one 15 (by decide) (by decide), one 16 (by decide) (by decide), one 17 (by decide) (by decide), one 18 (by decide) (by decide), one 19 (by decide) (by decide)]
  simp only [Int.reduceAdd]
  omega
theorem tens_sum {F : Int → Int} {b : Bg} {j : Nat} (hg : 0 ≤ b.g) (hr : b.r = 100) : sumL (fun x => cjo F b x j) tens1 = F (b.t + (b.g + 100) * W j) - F (b.t + (b.g + 20) * W j) := by
  have one : ∀ n : Int, 20 ≤ n → cjo F b (.low n) j = F (b.t + (b.g + (n + 10)) * W j) - F (b.t + (b.g + n) * W j) := by
    intro n h1
    rw [cjo_ten (by omega) hr, if_pos (by omega), cj_big (by omega)]
    simp only [Int.add_assoc]
  unfold tens1
  simp only [sumL]
  rw [one 20 (by decide), one 30 (by decide), one 40 (by decide), one 50 (by decide), one 60 (by decide), one 70 (by decide), one 80 (by decide), one 90 (by decide)]
  simp only [Int.reduceAdd]
  omega
theorem none_sum {F : Int → Int} {b : Bg} {j : Nat} {l : List Wo} (h : ∀ x ∈ l, cjo F b x j = 0) : sumL (fun x => cjo F b x j) l = 0 := sumL_zero l h
theorem teen_mem {x : Wo} (h : x ∈ teen) : ∃ n, 10 ≤ n ∧ x = .low n := by
  unfold teen at h
  simp only [List.mem_cons, List.not_mem_nil, or_false] at h
  rcases h with h | h | h | h | h | h | h | h | h | h <;> exact ⟨_, by decide, h⟩
theorem tens_mem {x : Wo} (h : x ∈ tens1) : ∃ n, 10 ≤ n ∧ x = .low n := by
  unfold tens1 at h
  simp only [List.mem_cons, List.not_mem_nil, or_false] at h
  rcases h with h | h | h | h | h | h | h | h <;> exact ⟨_, by decide, h⟩
theorem dig_mem {x : Wo} (h : x ∈ dig) : ∃ n, 0 < n ∧ n < 10 ∧ x = .low n := by
  unfold dig at h
  simp only [List.mem_cons, List.not_mem_nil, or_false] at h
  rcases h with h | h | h | h | h | h | h | h | h <;> exact ⟨_, by decide, by decide, h⟩
theorem all_split {F : Int → Int} {b : Bg} {k : Nat} (h0 : 0 ≤ b.g) : sumL (cfo F b) (all k) = cfo F b (.low 0) + sumR (fun j => cjo F b .hun j + (sumL (fun x => cjo F b x j) dig + (sumL (fun x => cjo F b x j) teen + sumL (fun x => cjo F b x j) tens1))) b.m + sumL (cfo F b) (scs k) := by
  have e : sumL (cfo F b) (.hun :: (dig ++ (teen ++ tens1))) = sumR (fun j => sumL (fun x => cjo F b x j) (.hun :: (dig ++ (teen ++ tens1)))) b.m := subs_sum h0 fun x hx => by
    rcases List.mem_cons.mp hx with rfl | hx
    · trivial
    rcases List.mem_append.mp hx with hx | hx
    · obtain ⟨n, h1, _, rfl⟩ := dig_mem hx
      exact h1
    rcases List.mem_append.mp hx with hx | hx
    · obtain ⟨n, h1, rfl⟩ := teen_mem hx
      show 0 < n
      omega
    · obtain ⟨n, h1, rfl⟩ := tens_mem hx
      show 0 < n
      omega
  have e2 : (fun j => sumL (fun x => cjo F b x j) (.hun :: (dig ++ (teen ++ tens1)))) = fun j => cjo F b .hun j + (sumL (fun x => cjo F b x j) dig + (sumL (fun x => cjo F b x j) teen + sumL (fun x => cjo F b x j) tens1)) := by
    funext j
    show cjo F b .hun j + sumL (fun x => cjo F b x j) (dig ++ (teen ++ tens1)) = _
    rw [sumL_append, sumL_append]
  rw [e2] at e
  rw [← e]
  unfold all
  rw [lows_is, tens_is]
  show cfo F b .hun + sumL (cfo F b) ((.low 0 :: (dig ++ teen)) ++ (tens1 ++ scs k)) = cfo F b (.low 0) + (cfo F b .hun + sumL (cfo F b) (dig ++ (teen ++ tens1))) + sumL (cfo F b) (scs k)
  rw [sumL_append, sumL_append, sumL_append, sumL_append]
  show cfo F b .hun + (cfo F b (.low 0) + sumL (cfo F b) (dig ++ teen) + (sumL (cfo F b) tens1 + sumL (cfo F b) (scs k))) = _
  rw [sumL_append]
  omega
theorem zero_none {F : Int → Int} {b : Bg} (h : has b = true) : cfo F b (.low 0) = 0 := by
  unfold cfo fol
  simp only
  rw [if_pos trivial, if_pos h]
/-- THE COUNT: the names that begin so are the whole one and those that go on with a word -/
theorem count {F : Int → Int} {b : Bg} {k : Nat} (ok : Ok b) (hk : b.m ≤ k + 1) : cf F b = own F b + sumL (cfo F b) (all k) := by
  obtain ⟨t0, h | ⟨m0, h⟩⟩ := ok
  · obtain ⟨e1, e2, e3, e4⟩ := h
    have hb : has b = true := by
      unfold has
      rw [e3]
      simp
    rw [all_split (by omega), zero_none hb, e4, scales_none (.inr e4)]
    unfold cf own
    rw [if_pos e2, if_pos hb, e4, e2, e1]
    show F (0 + W 0) - F 0 = F (0 + 0 + 1) - F (0 + 0) + (0 + 0 + 0)
    rw [show W 0 = 1 from rfl]
    show F 1 - F 0 = F 1 - F 0 + 0
    omega
  rcases h with ⟨e2, e3⟩ | h
  · -- nothing yet in this group
    rw [all_split (by omega), scales_none (.inl e2)]
    have z : sumR (fun j => cjo F b .hun j + (sumL (fun x => cjo F b x j) dig + (sumL (fun x => cjo F b x j) teen + sumL (fun x => cjo F b x j) tens1))) b.m = F (b.t + W b.m) - F (b.t + 1) := by
      rw [sumR_congr (g := fun j => F (b.t + W (j + 1)) - F (b.t + W j)) b.m fun j _ => ?_, sumR_tel (fun j => F (b.t + W j))]
      · rfl
      · rw [cjo_hun0 (by omega), dig_sum0 e2 (by omega), teen_sum (by omega) e3, tens_sum (by omega) e3, e2, W_succ]
        simp only [Int.zero_add, Int.one_mul]
        omega
    rw [z]
    unfold cf own
    rw [if_pos e2]
    by_cases hb : b.t > 0
    · have h1 : has b = true := by
        unfold has
        rw [decide_eq_true (show b.t + b.g > 0 by omega)]
        rfl
      rw [zero_none h1, if_pos h1, e2, Int.add_zero]
      omega
    · have h1 : has b = false := by
        unfold has
        rw [decide_eq_false (show ¬ b.t + b.g > 0 by omega), decide_eq_false (show ¬ b.r = 1 by omega)]
        rfl
      have e : b.t = 0 := by omega
      rw [h1, if_neg Bool.false_ne_true]
      have c0 : cfo F b (.low 0) = F (0 + 1) - F 0 := by
        unfold cfo fol
        simp only
        rw [if_pos trivial, h1, if_neg Bool.false_ne_true]
        show cf F zero = _
        unfold cf zero
        rw [if_pos rfl]
        rfl
      rw [c0, e]
      omega
  -- a group with words
  have g0 : 0 < b.g := by
    rcases h with ⟨h1, _⟩ | ⟨d, h1, _, h2, _⟩ | ⟨x, y, h1, _, h2, _, h3, _⟩ | ⟨h1, _⟩ <;> omega
  have hb : has b = true := by
    unfold has
    rw [decide_eq_true (show b.t + b.g > 0 by omega)]
    rfl
  have sc := scales_sum (F := F) (k := k) g0 m0 hk
  rw [all_split (by omega), zero_none hb, cf_pos (by omega)]
  unfold own
  rw [if_pos hb]
  have fin : ∀ f : Nat → Int, (∀ j, j < b.m → cj (fun n => F (b.t + n * W j)) b.g b.r = f j + (F (b.t + (b.g + 1) * W j) - F (b.t + b.g * W j))) → sumR (fun j => cj (fun n => F (b.t + n * W j)) b.g b.r) b.m = F (b.t + b.g + 1) - F (b.t + b.g) + (0 + sumR f b.m + sumL (cfo F b) (scs k)) := by
    intro f hf
    rw [sumR_congr b.m hf, sumR_add, ← sc]
    omega
  refine fin _ fun j _ => ?_
  rcases h with ⟨h1, h2, h3⟩ | ⟨d, h1, h2, h3, h4⟩ | ⟨x, y, h1, h2, h3, h4, h5, h6⟩ | ⟨h1, h2, h3⟩
  · rw [cjo_hun g0 (by omega), none_sum (l := dig), none_sum (l := teen), none_sum (l := tens1), cj_small (by omega), cj_big (by omega), h3]
    · simp only [Int.add_mul b.g 1 100, Int.one_mul]
      omega
    · intro x hx
      obtain ⟨n, h1, rfl⟩ := tens_mem hx
      exact cjo_ten0 h1 (by omega)
    · intro x hx
      obtain ⟨n, h1, rfl⟩ := teen_mem hx
      exact cjo_ten0 h1 (by omega)
    · intro x hx
      obtain ⟨n, h1, h2, rfl⟩ := dig_mem hx
      exact cjo_dig0 h1 h2 (by omega)
  · rw [cjo_hun0 (by omega), dig_sum (by omega) (by omega), teen_sum (by omega) h4, tens_sum (by omega) h4, cj_big (by omega), h4]
    omega
  · rw [cjo_hun0 (by omega), dig_sum (by omega) (by omega), none_sum (l := teen), none_sum (l := tens1), cj_big (by omega), h6]
    · omega
    · intro x hx
      obtain ⟨n, h1, rfl⟩ := tens_mem hx
      exact cjo_ten0 h1 (by omega)
    · intro x hx
      obtain ⟨n, h1, rfl⟩ := teen_mem hx
      exact cjo_ten0 h1 (by omega)
  · rw [cjo_hun0 (by omega), none_sum (l := dig), none_sum (l := teen), none_sum (l := tens1), cj_big (by omega), h3]
    · omega
    · intro x hx
      obtain ⟨n, h1, rfl⟩ := tens_mem hx
      exact cjo_ten0 h1 (by omega)
    · intro x hx
      obtain ⟨n, h1, rfl⟩ := teen_mem hx
      exact cjo_ten0 h1 (by omega)
    · intro x hx
      obtain ⟨n, h1, h2, rfl⟩ := dig_mem hx
      exact cjo_dig0 h1 h2 (by omega)
end Bg
set_option Elab.async false
set_option linter.all false
set_option maxRecDepth 100000
set_option maxHeartbeats 4000000
namespace Bg
theorem Ok.bnd {b : Bg} (ok : Ok b) : 0 ≤ b.t ∧ 0 ≤ b.g ∧ 1 ≤ b.r ∧ b.r ≤ 100 ∧ b.g + b.r ≤ 1000 ∧ b.g ≤ 999 := by
  obtain ⟨t0, ⟨_, h2, h3, _⟩ | ⟨_, h⟩⟩ := ok
  · omega
  · rcases h with ⟨h1, h2⟩ | ⟨h1, h2, h3⟩ | ⟨d, h1, h2, h3, h4⟩ | ⟨x, y, h1, h2, h3, h4, h5, h6⟩ | ⟨h1, h2, h3⟩ <;> omega
/-- the words that a table can have below hundred -/
def WOk : Wo → Prop
  | .low n => (0 ≤ n ∧ n < 20) ∨ ∃ k : Int, 2 ≤ k ∧ k ≤ 9 ∧ n = 10 * k
  | .hun => True
  | .sc _ => True
theorem all_ok {k : Nat} {x : Wo} (h : x ∈ all k) : WOk x := by
  rcases List.mem_cons.mp h with rfl | h
  · trivial
  rcases List.mem_append.mp h with h | h
  · obtain ⟨n, hn, rfl⟩ := List.mem_map.mp h
    have := List.mem_range.mp hn
    exact .inl ⟨by omega, by omega⟩
  rcases List.mem_append.mp h with h | h
  · obtain ⟨n, hn, rfl⟩ := List.mem_map.mp h
    have := List.mem_range.mp hn
    exact .inr ⟨(n : Int) + 2, by omega, by omega, rfl⟩
  · obtain ⟨n, hn, rfl⟩ := List.mem_map.mp h
    trivial
theorem fol_ok {b c : Bg} {x : Wo} (ok : Ok b) (hx : WOk x) (h : fol b x = some c) : Ok c := by
  obtain ⟨t0, z⟩ := ok
  have t0' := t0
  cases x with
  | hun =>
    unfold fol at h
    simp only at h
    by_cases q : 0 < b.g ∧ b.g < 10
    · rw [if_pos q] at h
      cases h
      rcases z with z | ⟨m0, z⟩
      · omega
      · exact ⟨t0, .inr ⟨m0, .inr (.inr (.inl ⟨b.g, by omega, by omega, Int.mul_comm _ _, rfl⟩))⟩⟩
    · rw [if_neg q] at h
      cases h
  | sc i =>
    unfold fol at h
    simp only at h
    by_cases q : b.g > 0 ∧ i + 1 < b.m
    · rw [if_pos q] at h
      cases h
      refine ⟨?_, .inr ⟨Nat.succ_pos i, .inl ⟨rfl, rfl⟩⟩⟩
      have := W_pos (i + 1)
      have := Int.mul_nonneg (Int.le_of_lt q.1) (Int.le_of_lt this)
      show 0 ≤ b.t + b.g * W (i + 1)
      omega
    · rw [if_neg q] at h
      cases h
  | low n =>
    unfold fol at h
    simp only at h
    by_cases q0 : n = 0
    · rw [if_pos q0] at h
      cases hb : has b with
      | true =>
        rw [hb, if_pos rfl] at h
        cases h
      | false =>
        rw [hb, if_neg Bool.false_ne_true] at h
        cases h
        exact ⟨Int.le_refl _, .inl ⟨rfl, rfl, rfl, rfl⟩⟩
    · rw [if_neg q0] at h
      by_cases q1 : n ≥ 10
      · rw [if_pos q1] at h
        by_cases q2 : b.r = 100
        · rw [if_pos q2] at h
          cases h
          rcases z with z | ⟨m0, z⟩
          · omega
          · refine ⟨t0, .inr ⟨m0, ?_⟩⟩
            obtain ⟨e, e0, e9, hg⟩ : ∃ e : Int, 0 ≤ e ∧ e ≤ 9 ∧ b.g = 100 * e := by
              rcases z with ⟨h1, _⟩ | ⟨h1, h2, h3⟩ | ⟨d, h1, h2, h3, h4⟩ | ⟨x, y, h1, h2, h3, h4, h5, h6⟩ | ⟨h1, h2, h3⟩
              · exact ⟨0, by omega, by omega, by omega⟩
              · omega
              · exact ⟨d, by omega, by omega, h3⟩
              · omega
              · omega
            rcases hx with hx | ⟨k, k2, k9, rfl⟩
            · rw [if_neg (by omega)]
              exact .inr (.inr (.inr (.inr ⟨by show 10 ≤ b.g + n; omega, by show b.g + n ≤ 999; omega, rfl⟩)))
            · rw [if_pos (by omega)]
              exact .inr (.inr (.inr (.inl ⟨e, k, e0, e9, k2, k9, by show b.g + 10 * k = _; omega, rfl⟩)))
        · rw [if_neg q2] at h
          cases h
      · rw [if_neg q1] at h
        by_cases q2 : b.r ≥ 10
        · rw [if_pos q2] at h
          cases h
          have n0 : 0 < n := by
            rcases hx with hx | ⟨k, k2, k9, rfl⟩ <;> omega
          rcases z with z | ⟨m0, z⟩
          · omega
          · refine ⟨t0, .inr ⟨m0, ?_⟩⟩
            rcases z with ⟨h1, _⟩ | ⟨h1, h2, h3⟩ | ⟨d, h1, h2, h3, h4⟩ | ⟨x, y, h1, h2, h3, h4, h5, h6⟩ | ⟨h1, h2, h3⟩
            · exact .inr (.inl ⟨by show 1 ≤ b.g + n; omega, by show b.g + n ≤ 9; omega, rfl⟩)
            · omega
            · exact .inr (.inr (.inr (.inr ⟨by show 10 ≤ b.g + n; omega, by show b.g + n ≤ 999; omega, rfl⟩)))
            · exact .inr (.inr (.inr (.inr ⟨by show 10 ≤ b.g + n; omega, by show b.g + n ≤ 999; omega, rfl⟩)))
            · omega
        · rw [if_neg q2] at h
          cases h
theorem fol_m {b c : Bg} {x : Wo} (h : fol b x = some c) : c.m ≤ b.m := by
  unfold fol at h
  split at h
  · split at h
    · split at h
      · cases h
      · cases h
        exact Nat.zero_le _
    · split at h
      · split at h
        · cases h
          exact Nat.le_refl _
        · cases h
      · split at h
        · cases h
          exact Nat.le_refl _
        · cases h
  · split at h
    · cases h
      exact Nat.le_refl _
    · cases h
  · split at h
    · rename_i q
      cases h
      show _ + 1 ≤ b.m
      omega
    · cases h
/-- how far a beginning can still go -/
def far (b : Bg) : Nat := 6 * b.m + (if b.g = 0 then (if b.m = 0 then 0 else 5) else if b.g < 10 then 4 else if b.r = 100 then 3 else if b.r = 10 then 2 else 1)
theorem fol_far {b c : Bg} {x : Wo} (ok : Ok b) (hx : WOk x) (h : fol b x = some c) : far c < far b := by
  obtain ⟨t0, z⟩ := ok
  unfold far
  cases x with
  | hun =>
    unfold fol at h
    simp only at h
    by_cases q : 0 < b.g ∧ b.g < 10
    · rw [if_pos q] at h
      cases h
      show 6 * b.m + (if b.g * 100 = 0 then _ else if b.g * 100 < 10 then _ else if (100 : Int) = 100 then 3 else _) < _
      rw [if_neg (by omega), if_neg (by omega), if_pos rfl, if_neg (by omega), if_pos q.2]
      omega
    · rw [if_neg q] at h
      cases h
  | sc i =>
    unfold fol at h
    simp only at h
    by_cases q : b.g > 0 ∧ i + 1 < b.m
    · rw [if_pos q] at h
      cases h
      show 6 * (i + 1) + (if (0 : Int) = 0 then (if i + 1 = 0 then 0 else 5) else _) < _
      rw [if_pos rfl, if_neg (by omega)]
      omega
    · rw [if_neg q] at h
      cases h
  | low n =>
    unfold fol at h
    simp only at h
    by_cases q0 : n = 0
    · rw [if_pos q0] at h
      cases hb : has b with
      | true =>
        rw [hb, if_pos rfl] at h
        cases h
      | false =>
        rw [hb, if_neg Bool.false_ne_true] at h
        cases h
        show 0 < _
        rcases z with z | ⟨m0, z⟩
        · exfalso
          unfold has at hb
          rw [z.2.2.1] at hb
          simp at hb
        · omega
    · rw [if_neg q0] at h
      have n0 : 0 < n := by
        rcases hx with hx | ⟨k, k2, k9, rfl⟩ <;> omega
      by_cases q1 : n ≥ 10
      · rw [if_pos q1] at h
        by_cases q2 : b.r = 100
        · rw [if_pos q2] at h
          cases h
          have zz : b.g = 0 ∧ 0 < b.m ∨ b.g ≥ 100 := by
            rcases z with z | ⟨m0, z⟩
            · omega
            · rcases z with ⟨h1, _⟩ | ⟨h1, h2, h3⟩ | ⟨d, h1, h2, h3, h4⟩ | ⟨x, y, h1, h2, h3, h4, h5, h6⟩ | ⟨h1, h2, h3⟩ <;> omega
          show 6 * b.m + (if b.g + n = 0 then _ else if b.g + n < 10 then _ else if (if n ≥ 20 then (10 : Int) else 1) = 100 then _ else if (if n ≥ 20 then (10 : Int) else 1) = 10 then 2 else 1) < _
          rw [if_neg (by omega), if_neg (by omega), if_neg (by split <;> omega)]
          have two : ∀ (p : Prop) [Decidable p], (if p then 2 else 1) ≤ 2 := fun p _ => by split <;> omega
          have := two ((if n ≥ 20 then (10 : Int) else 1) = 10)
          rcases zz with ⟨h1, h2⟩ | h1
          · rw [if_pos h1, if_neg (show ¬ b.m = 0 by omega)]
            omega
          · rw [if_neg (show ¬ b.g = 0 by omega), if_neg (show ¬ b.g < 10 by omega), if_pos q2]
            omega
        · rw [if_neg q2] at h
          cases h
      · rw [if_neg q1] at h
        by_cases q2 : b.r ≥ 10
        · rw [if_pos q2] at h
          cases h
          show 6 * b.m + (if b.g + n = 0 then _ else if b.g + n < 10 then 4 else if (1 : Int) = 100 then _ else if (1 : Int) = 10 then _ else 1) < _
          have zz : b.g = 0 ∧ 0 < b.m ∨ b.g ≥ 10 := by
            rcases z with z | ⟨m0, z⟩
            · omega
            · rcases z with ⟨h1, _⟩ | ⟨h1, h2, h3⟩ | ⟨d, h1, h2, h3, h4⟩ | ⟨x, y, h1, h2, h3, h4, h5, h6⟩ | ⟨h1, h2, h3⟩ <;> omega
          rcases zz with ⟨h1, h2⟩ | h1
          · rw [if_neg (show ¬ b.g + n = 0 by omega), if_pos (show b.g + n < 10 by omega), if_pos h1, if_neg (show ¬ b.m = 0 by omega)]
            omega
          · rw [if_neg (show ¬ b.g + n = 0 by omega), if_neg (show ¬ b.g + n < 10 by omega), if_neg (by decide), if_neg (by decide), if_neg (show ¬ b.g = 0 by omega), if_neg (show ¬ b.g < 10 by omega)]
            by_cases q3 : b.r = 100
            · rw [if_pos q3]
              omega
            · rw [if_neg q3, if_pos]
              · omega
              · rcases z with z | ⟨m0, z⟩
                · omega
                · rcases z with ⟨h1, _⟩ | ⟨h1, h2, h3⟩ | ⟨d, h1, h2, h3, h4⟩ | ⟨x, y, h1, h2, h3, h4, h5, h6⟩ | ⟨h1, h2, h3⟩ <;> omega
        · rw [if_neg q2] at h
          cases h
/-! ### what the program counts -/
def ovj (lo hi : Int) (b : Bg) (j : Nat) : Int := ov lo hi (b.t + b.g * W j) (b.t + (b.g + b.r) * W j) + if b.g < 10 then ov lo hi (b.t + b.g * 100 * W j) (b.t + (b.g + 1) * 100 * W j) else 0
theorem ovj_cj {lo hi : Int} {b : Bg} (ok : Ok b) (j : Nat) : ovj lo hi b j = cj (fun n => fb lo hi (b.t + n * W j)) b.g b.r := by
  obtain ⟨h1, h2, h3, h4, h5, h6⟩ := ok.bnd
  have w := W_pos j
  unfold ovj cj
  have le : ∀ {x y : Int}, x ≤ y → b.t + x * W j ≤ b.t + y * W j := fun h => Int.add_le_add_left (Int.mul_le_mul_of_nonneg_right h (Int.le_of_lt w)) _
  rw [ov_fb (le (by omega)), ov_fb (le (by omega))]
theorem cf_code {lo hi : Int} {b : Bg} (ok : Ok b) (h : b.g ≠ 0) : cf (fb lo hi) b = sumR (ovj lo hi b) b.m := by
  rw [cf_pos h]
  exact (sumR_congr b.m fun j _ => ovj_cj ok j).symm
theorem cf_code0 {lo hi : Int} {b : Bg} (h : b.g = 0) : cf (fb lo hi) b = ov lo hi b.t (b.t + W b.m) := by
  have w := W_pos b.m
  rw [ov_fb (by omega)]
  unfold cf
  rw [if_pos h]
theorem cf_out {lo hi : Int} {b : Bg} (ok : Ok b) (h : hi < b.t ∨ lo ≥ b.t + W b.m) : cf (fb lo hi) b = 0 := by
  obtain ⟨h1, h2, h3, h4, h5, h6⟩ := ok.bnd
  unfold cf
  split
  · exact fb_same (by have := W_pos b.m; omega) (by omega)
  · refine (sumR_congr b.m fun j hj => ?_).trans (sumR_zero b.m)
    have w := W_pos j
    have w2 := W_lt hj
    have lo_ : ∀ {x : Int}, 0 ≤ x → 0 ≤ x * W j := fun h => Int.mul_nonneg h (Int.le_of_lt w)
    have hi_ : ∀ {x : Int}, x ≤ 1000 → x * W j ≤ W b.m := fun h => Int.le_trans (Int.mul_le_mul_of_nonneg_right h (Int.le_of_lt w)) w2
    have le : ∀ {x y : Int}, x ≤ y → x * W j ≤ y * W j := fun h => Int.mul_le_mul_of_nonneg_right h (Int.le_of_lt w)
    have z : ∀ {x y : Int}, 0 ≤ x → x ≤ y → y ≤ 1000 → fb lo hi (b.t + y * W j) - fb lo hi (b.t + x * W j) = 0 := by
      intro x y a1 a2 a3
      have p1 := lo_ a1
      have p2 := hi_ a3
      have p3 := le a2
      exact fb_same (by omega) (by omega)
    unfold cj
    simp only
    rw [z h2 (by omega) h5]
    split
    · rw [z (by omega) (by omega) (by omega)]
      rfl
    · rfl
theorem cf_nonneg {lo hi : Int} {b : Bg} (ok : Ok b) : 0 ≤ cf (fb lo hi) b := by
  obtain ⟨h1, h2, h3, h4, h5, h6⟩ := ok.bnd
  unfold cf
  split
  · have := fb_mono (lo := lo) (hi := hi) (show b.t ≤ b.t + W b.m by have := W_pos b.m; omega)
    omega
  · refine sumR_nonneg b.m fun j _ => ?_
    have w := W_pos j
    have le : ∀ {x y : Int}, x ≤ y → b.t + x * W j ≤ b.t + y * W j := fun h => Int.add_le_add_left (Int.mul_le_mul_of_nonneg_right h (Int.le_of_lt w)) _
    unfold cj
    simp only
    have a := fb_mono (lo := lo) (hi := hi) (le (show b.g ≤ b.g + b.r by omega))
    split
    · have c := fb_mono (lo := lo) (hi := hi) (le (show b.g * 100 ≤ (b.g + 1) * 100 by omega))
      omega
    · omega
def start (k : Nat) : Bg := ⟨0, 0, 100, k + 1⟩
theorem start_ok (k : Nat) : Ok (start k) := ⟨Int.le_refl _, .inr ⟨Nat.succ_pos k, .inl ⟨rfl, rfl⟩⟩⟩
theorem start_all {lo hi : Int} {k : Nat} (h0 : 0 ≤ lo) (h1 : lo ≤ hi) (h2 : hi < W (k + 1)) : cf (fb lo hi) (start k) = hi - lo + 1 := by
  unfold cf start
  rw [if_pos rfl]
  show fb lo hi (0 + W (k + 1)) - fb lo hi 0 = _
  rw [fb_high (by omega) h1, fb_low (by omega)]
  omega
/-- the program's test of an own number -/
theorem own_code {lo hi : Int} {b : Bg} (h : lo ≤ hi) : own (fb lo hi) b = if (has b && (decide (lo ≤ b.t + b.g) && decide (b.t + b.g ≤ hi))) = true then 1 else 0 := by
  unfold own
  cases has b with
  | false =>
    rw [if_neg Bool.false_ne_true]
    rfl
  | true =>
    rw [if_pos rfl, fb_one h]
    simp only [Bool.true_and, Bool.and_eq_true, decide_eq_true_eq]
theorem own_nonneg {lo hi : Int} {b : Bg} (h : lo ≤ hi) : 0 ≤ own (fb lo hi) b := by
  rw [own_code h]
  split <;> decide
end Bg
set_option Elab.async false
set_option linter.all false
set_option maxRecDepth 100000
set_option maxHeartbeats 4000000
/-! The program's own: beginnings, one by one. -/
namespace LB
open PySem L2 Wk
open Bg (Bg)
/-- a beginning as the program holds it -/
def BgV (b : Bg) : List V := [.int b.t, .int b.g, .int b.r, .int (Bg.W b.m)]
def spHas (K : PySem.W.Frag) : Sp := fun vs H Q _ => ∃ (p : Addr) (b : Bg), vs = [.ref p] ∧ SqT K H p (BgV b) ∧ Q (.bl (Bg.has b)) H
def spOverlap : Sp := fun vs H Q _ => ∃ a e lo hi : Int, vs = [.int a, .int e, .int lo, .int hi] ∧ Q (.int (Bg.ov lo hi a e)) H
def spOwn (K : PySem.W.Frag) : Sp := fun vs H Q _ => ∃ (p : Addr) (b : Bg), vs = [.ref p] ∧ SqT K H p (BgV b) ∧ Q (.int (b.t + b.g)) H
def endsB (lo hi : Int) (b : Bg) : Bool := Bg.has b && (decide (lo ≤ b.t + b.g) && decide (b.t + b.g ≤ hi))
def spEnds (K : PySem.W.Frag) : Sp := fun vs H Q _ => ∃ (p : Addr) (b : Bg) (lo hi : Int), vs = [.ref p, .int lo, .int hi] ∧ SqT K H p (BgV b) ∧ Q (.bl (endsB lo hi b)) H
def spCount (K : PySem.W.Frag) : Sp := fun vs H Q _ => ∃ (p : Addr) (b : Bg) (lo hi : Int), vs = [.ref p, .int lo, .int hi] ∧ SqT K H p (BgV b) ∧ Bg.Ok b ∧ Q (.int (Bg.cf (Bg.fb lo hi) b)) H
section
variable {P : Program} {w : World} {K : PySem.W.Frag} {mg : Str → Option Value} {base : Heap}
theorem scHas : FnScope ["beginning", "total", "group", "room", "_"] ["beginning"] (defScope sHas) := ⟨rfl, rfl, rfl, by decide +kernel, rfl, by decide +kernel, by decide +kernel⟩
theorem ok_has {f : Addr} {fd : FuncData} (F : Fun K "_has_words" "_has_words" sHas f fd) : FnOk P w K mg base CX0 1 f fd ["beginning"] (spHas K) := by
  refine F.ok scHas (fun vs H Q E h => ?_) (fun cdv A outer s H vs Q E hr h => ?_)
  · obtain ⟨p, b, rfl, _⟩ := h
    rfl
  · obtain ⟨p, b, rfl, hb, k⟩ := h
    refine ⟨_, pss_cons (ps_asg (pv 0) (pg_tup (by rfl) (pgs_cons (pg_name (i := 1) scHas.nd rfl (.inl rfl)) (pgs_cons (pg_name (i := 2) scHas.nd rfl (.inl rfl)) (pgs_cons (pg_name (i := 3) scHas.nd rfl (.inl rfl)) (pgs_cons (pg_name (i := 4) scHas.nd rfl (.inl rfl)) pgs_nil))))))
      (pss_one (ps_ret (pe_or (pe_cmpR op_gt (pe_op op_add (pv 1) (pv 2)) pe_int (nomark _)) (pe_one (pe_cmpR op_eq (pv 3) pe_int (nomark _)))))), ?_⟩
    refine ⟨_, rfl, p, _, rfl, hb, rfl, _, _, rfl, _, _, rfl, _, _, rfl, _, _, rfl, rfl, ?_⟩
    refine ⟨_, rfl, _, rfl, _, _, rfl, rfl, _, _, rfl, rfl, _, rfl, ?_⟩
    unfold Bg.has at k
    by_cases c : b.t + b.g > 0
    · rw [decide_eq_true c] at k ⊢
      exact iteT k
    · rw [decide_eq_false c] at k ⊢
      refine iteF ⟨_, rfl, rfl, ?_⟩
      have e : decide (V.int b.r = V.int 1) = decide (b.r = 1) := decide_eq_decide.mpr ⟨fun z => V.int.inj z, fun z => by rw [z]⟩
      rw [e]
      exact k
end
end LB
set_option Elab.async false
set_option linter.all false
set_option maxRecDepth 100000
set_option maxHeartbeats 4000000
/-! sorted(d.items()), d a dict from texts to numbers: the pairs in the order of the texts. -/
namespace WkI
open PySem PySem.Spec PyProof.Rows L2 SrtO PySem.W
/-- v is a pair (x, M x) -/
def PairSI (h : Heap) (v : Value) (x : Str) (i : Int) : Prop := ∃ (a : Addr) (t u : Tok), v = .ref a ∧ IsTup h a #[.str x t, .int i u]
theorem PairSI.keeps {h h' : Heap} {v : Value} {x : Str} {i : Int} (p : PairSI h v x i) (k : ∀ b o, h.get? b = some o → o.cls = .type "tuple" → h'.get? b = some o) : PairSI h' v x i := by
  obtain ⟨a, t, u, e, o, ho, hc, r⟩ := p
  exact ⟨a, t, u, e, o, k _ _ ho hc, hc, r⟩
/-- the text of a pair, read off the heap -/
def kx (h : Heap) (v : Value) : Str := DT.txOf (DT.seqAt0 h (DT.refOf (some v)))
theorem PairSI.kx {h : Heap} {v : Value} {x : Str} {i : Int} (p : PairSI h v x i) : kx h v = x := by
  obtain ⟨a, t, u, rfl, p⟩ := p
  show DT.txOf (DT.seqAt0 h a) = x
  rw [DT.seqAt0_of p]
  rfl
def ltS (x y : Str) : Bool := decide (x.cps.toList < y.cps.toList)
theorem swoS {α : Type} (f : α → Str) : Swo fun v u => ltS (f v) (f u) := by
  refine ⟨fun x y h => ?_, fun x y z h1 h2 => ?_⟩
  · have a := of_decide_eq_true h
    exact decide_eq_false (List.lt_asymm a)
  · have a := of_decide_eq_false h1
    have b := of_decide_eq_false h2
    refine decide_eq_false ?_
    rw [List.not_lt] at *
    exact List.le_trans a b
theorem ltS_tri {x y : Str} (h1 : ltS x y = false) (h2 : ltS y x = false) : x = y := by
  have a := of_decide_eq_false h1
  have b := of_decide_eq_false h2
  rw [List.not_lt] at *
  have e := List.le_antisymm b a
  obtain ⟨⟨l⟩⟩ := x
  obtain ⟨⟨m⟩⟩ := y
  have e' : l = m := e
  rw [e']
theorem strs_of {h : Heap} : ∀ vs : List Value, (∀ v ∈ vs, ∃ x i, PairSI h v x i) → ∃ fs : List Value, KatTups h vs fs ∧ fs.length = vs.length ∧ ∀ f ∈ fs, ∃ (x : Str) (t : Tok), f = Value.str x t
  | [], _ => ⟨[], KatTups.nil, rfl, fun f hf => by simp at hf⟩
  | v :: vs, x => by
    obtain ⟨fs, k, hl, hi⟩ := strs_of vs fun u hu => x u (List.mem_cons_of_mem _ hu)
    obtain ⟨y, i, a, t, u, rfl, o, ho, hc, n, hd⟩ := x v (List.mem_cons_self ..)
    refine ⟨.str y t :: fs, KatTups.cons ho hc hd rfl k, by rw [List.length_cons, List.length_cons, hl], fun f hf => ?_⟩
    rcases List.mem_cons.mp hf with rfl | hf
    · exact ⟨y, t, rfl⟩
    · exact hi f hf
section
variable {prog : Program} {w : World} {A : Around} {E : Value → Shared → Prop} {s : Shared}
theorem pair_cmpS {vs : List Value} {k : Value → Str} {M : Str → Int} (hp : ∀ v ∈ vs, PairSI s.heap v (k v) (M (k v))) : SrtO.Cmp prog w A s (tuples' true) (fun p => p.1 ∈ vs) (lt2 fun v u => ltS (k v) (k u)) := by
  intro p q hm hm'
  have h1 := hp _ hm
  have h2 := hp _ hm'
  show wpAny (model prog w) A (keyLt' (tuples' true) p.1 q.1) (fun r s' => s' = s ∧ r = ltS (k p.1) (k q.1)) (fun _ _ => False) s
  generalize k p.1 = x at h1 ⊢
  generalize k q.1 = x' at h2 ⊢
  obtain ⟨a, t, u, e, o, ho, hc, n, hd⟩ := h1
  obtain ⟨a', t', u', e', o', ho', hc', n', hd'⟩ := h2
  rw [e, e']
  refine kat_lt ho hd ho' hd' ?_
  show KatLex prog w A true (decide (2 < 2)) _ [(.str x t, .str x' t'), (.int (M x) u, .int (M x') u')] 0 s
  refine kat_cons (PySem.SeqAt.EqAt.str_str (A := A) (s := s) x t x' t' prog w _ _ ?_)
  refine kat_go (fun e1 => ?_) (fun e1 => ?_)
  · have ex : x = x' := by simpa using e1
    subst ex
    refine kat_yes (kat_cons (SeqAt.EqAt.int_int (M x) u (M x) u' prog w _ _ ?_))
    have e4 : ltS x x = false := decide_eq_false (List.lt_irrefl _)
    refine kat_go (fun e2 => ?_) (fun e2 => ?_)
    · refine kat_yes (kat_nil ⟨rfl, ?_⟩)
      rw [e4]
      rfl
    · exact absurd e2 (by simp)
  · exact kat_no (PyProof.Rows.oneLt_str ⟨rfl, rfl⟩)
theorem pairs_sortableS {a : Addr} {vs : List Value} {k : Value → Str} {M : Str → Int} (h0 : 0 < vs.length) (hp : ∀ v ∈ vs, PairSI s.heap v (k v) (M (k v))) (ha : ∀ o, s.heap.get? a = some o → o.cls ≠ .type "tuple") : SortableO prog w A s a vs fun v u => ltS (k v) (k u) := by
  intro h' keep
  have hp' : ∀ v ∈ vs, PairSI h' v (k v) (M (k v)) := fun v hm => (hp v hm).keeps fun b o e c => keep b o (fun z => by subst z; exact ha o e c) e
  obtain ⟨fs, h1, h2, h3⟩ := strs_of vs fun v hm => ⟨_, _, hp' v hm⟩
  refine ⟨tuples' true, fun Q E hq => ?_, pair_cmpS hp'⟩
  refine kat_kind (T := .type "str") h1 (by omega) (fun f hm => ?_) (by rfl) ?_
  · obtain ⟨x, t, rfl⟩ := h3 f hm
    exact Looks.now
  · have e : (Value.type "str" != Value.type "tuple") = true := by first | decide +kernel | rfl | decide
    rw [e]
    exact hq
end
theorem pairs_at {P : Program} {w : World} : ∀ {es : List DictEntry} {kvs : List (Key × Value)}, Pairs (mixKind P w) es kvs → ∀ {j : Nat} {e : DictEntry}, es[j]? = some e → ∃ kv, kvs[j]? = some kv ∧ keyIs kv.1 e.key = true ∧ e.val = kv.2
  | _, _, .nil, j, e, h => by cases h
  | _, _, .cons (kv := kv) h1 h2 t, 0, e, h => by
    have e' := Option.some.inj h
    subst e'
    exact ⟨kv, rfl, h1, h2⟩
  | _, _, .cons h1 h2 t, j + 1, e, h => pairs_at t h
section
variable {X : Cx}
def rItemsK : V → List V → Hp → VK → Prop := fun x xs H Q => ∃ (a : Addr) (kvs : List (Key × V)), x = .ref a ∧ xs = [] ∧ H a = some (.dK kvs) ∧ ∀ p, H p = none → Q (.ref p) (upd H p (DX.itemsO p a))
theorem mt_itemsK : MtR X "dict.items" rItemsK := by
  intro pins s σ H x xs v us Q I rx rxs h
  obtain ⟨a, kvs, rfl, rfl, ha, q⟩ := h
  cases rx
  cases rxs
  obtain ⟨hz, hs0, vs, kv, o, es, ep, ho, hx, hdat, _⟩ := I.hok a _ ha
  refine DT.callItems (es := es) (ep := ep) hs0 ⟨o, ho, hx, hdat⟩ ?_
  have hf : H s.heap.objs.size = none := I.hok.fresh (Nat.le_refl _)
  exact ⟨.ref s.heap.objs.size, upd H s.heap.objs.size (DX.itemsO s.heap.objs.size a), I.laid (t' := s.toks) (fun b u e => Heap.get?_push_of_some _ e) (Nat.le_refl _) (DX.itemsO_ok (Heap.get?_push_size _ rfl)), rfl, q _ hf⟩
abbrev entS (e : Str × Int) : Key × V := (Sum.inr e.1, V.int e.2)
/-- sorted(d.items()) -/
def rSortItK : List V → Hp → VK → Prop := fun vs H Q => ∃ (p a : Addr) (ks : List (Str × Int)), vs = [.ref p] ∧ H p = some (DX.itemsO p a) ∧ H a = some (.dK (ks.map entS)) ∧ ks.length ≤ 1000 ∧
  ∀ (H' : Hp) (l : Addr) (ps : List (Addr × Str × Int)), Same H H' → H l = none → (ps.map (·.2)).Perm ks → (ps.map (·.2)).Pairwise (fun e f => ltS e.1 f.1 = true) → H' l = some (.lst (ps.map fun z => V.ref z.1)) →
    (∀ z ∈ ps, H z.1 = none ∧ H' z.1 = some (.tup [.str z.2.1, .int z.2.2])) → Q (.ref l) H'
theorem cr_sortedItK (hc : X.calm = true) : CallR X (.builtin "sorted") rSortItK := by
  intro pins s σ H xs us Q I r h
  obtain ⟨p, a, ks, rfl, hp, ha, h1000, q⟩ := h
  obtain rfl := Vals.ref1 r
  have view : s.heap.IsItemsView p a := (show ObjOk X.prog X.w H s.heap p (DX.itemsO p a) from I.hok p _ hp).1
  obtain ⟨hz, hs0, vs, kv, o, es, ep, ho, hx, hdat, hks, hps, hn⟩ := I.hok a _ ha
  have l1 : (ks.map entS).length = vs.length := Paired.length kv
  rw [List.length_map] at l1
  have l2 : es.size = vs.length := by
    have := Pairs.length hps
    rw [Array.length_toList] at this
    exact this
  have hh : X.A.handled = none := I.ok.hd hc
  have big : 1000 ≤ sizeLine := by decide
  refine DT.sortedI (es := es) (ep := ep) hh view ⟨o, ho, hx, hdat⟩ (by omega) fun h' tk as hk hlt hl hG => ?_
  have lak : as.length = ks.length := by omega
  have nd : as.Nodup := List.Pairwise.imp (fun h => Nat.ne_of_lt h) hG.rise
  -- the pairs that were made
  have pr : ∀ (j : Nat) (b : Addr), as[j]? = some b → ∃ (e : Str × Int) (t u : Tok), ks[j]? = some e ∧ h'.get? b = some { cls := .type "tuple", data := .seq #[Value.str e.1 t, Value.int e.2 u] } := by
    intro j b hj
    obtain ⟨en, he, hg⟩ := hG.pairs j b hj
    rw [← Array.getElem?_toList] at he
    obtain ⟨kv1, hkv, k1, k2⟩ := pairs_at hps he
    obtain ⟨e0, he0, r1, r2⟩ := DX.pget kv hkv
    rw [List.getElem?_map] at he0
    cases hkj : ks[j]? with
    | none =>
      rw [hkj] at he0
      cases he0
    | some e =>
      rw [hkj] at he0
      have ee : entS e = e0 := Option.some.inj he0
      rw [← ee] at r1 r2
      rw [← r1] at k1
      obtain ⟨t, et⟩ : ∃ t, en.key = Value.str e.1 t := relV_key k1
      rw [← k2] at r2
      obtain ⟨u, eu⟩ : ∃ u, en.val = Value.int e.2 u := r2
      rw [et, eu] at hg
      exact ⟨e, t, u, rfl, hg⟩
  have keysN : (ks.map (·.1)).Nodup := by
    have e1 : vs.map (·.1) = ks.map fun e => (Sum.inr e.1 : Key) := by
      have : ∀ {l : List (Str × Int)} {m : List (Key × Value)}, KV (l.map entS) m → m.map (·.1) = l.map fun e => (Sum.inr e.1 : Key) := by
        intro l
        induction l with
        | nil =>
          intro m h
          cases h
          rfl
        | cons x l ih =>
          intro m h
          cases h with
          | cons h t =>
            rw [List.map_cons, List.map_cons, ih t, ← h.1]
      exact this kv
    rw [e1] at hn
    have e2 : (ks.map fun e => (Sum.inr e.1 : Key)) = (ks.map (·.1)).map fun x => (Sum.inr x : Key) := by
      rw [List.map_map]
      rfl
    rw [e2] at hn
    exact (List.pairwise_map.mp hn).imp fun h z => h (by rw [z])
  -- each text's number
  let M : Str → Int := fun x => ((ks.find? fun e => decide (e.1 = x)).map (·.2)).getD 0
  have hM : ∀ e ∈ ks, M e.1 = e.2 := by
    intro e he
    have : ∀ l : List (Str × Int), (l.map (·.1)).Nodup → e ∈ l → l.find? (fun f => decide (f.1 = e.1)) = some e := by
      intro l
      induction l with
      | nil => intro _ h; cases h
      | cons x l ih =>
        intro n h
        rw [List.map_cons, List.nodup_cons] at n
        rcases List.mem_cons.mp h with z | z
        · subst z
          rw [List.find?_cons_of_pos (by simp)]
        · rw [List.find?_cons_of_neg, ih n.2 z]
          intro c
          have c' := of_decide_eq_true c
          exact n.1 (by rw [c']; exact List.mem_map.mpr ⟨e, z, rfl⟩)
    show ((ks.find? fun f => decide (f.1 = e.1)).map (·.2)).getD 0 = e.2
    rw [this ks keysN he]
    rfl
  -- the heap of the sort
  have hob : (h'.push { cls := .type "list", data := .seq (as.map Value.ref).toArray }).get? h'.objs.size = some (seqObj "list" (as.map Value.ref).toArray 0) := Heap.get?_push_size _ rfl
  have kb : ∀ b o, s.heap.get? b = some o → (h'.push { cls := .type "list", data := .seq (as.map Value.ref).toArray }).get? b = some o := fun b o e => Heap.get?_push_of_some _ (hk b o e)
  have ne0 : ∀ b o, h'.get? b = some o → b ≠ h'.objs.size := fun b o e => Nat.ne_of_lt (Heap.lt_size e)
  generalize hh2 : h'.push { cls := .type "list", data := .seq (as.map Value.ref).toArray } = h2 at hob kb ⊢
  have ka : ∀ b o, h'.get? b = some o → h2.get? b = some o := fun b o e => by rw [← hh2]; exact Heap.get?_push_of_some _ e
  have pin : ∀ (j : Nat) (b : Addr), as[j]? = some b → ∃ e : Str × Int, ks[j]? = some e ∧ PairSI h2 (.ref b) e.1 e.2 := by
    intro j b hj
    obtain ⟨e, t, u, he, hg⟩ := pr j b hj
    exact ⟨e, he, b, t, u, rfl, _, ka _ _ hg, rfl, 0, rfl⟩
  have tx : ∀ (j : Nat) (b : Addr) (e : Str × Int), as[j]? = some b → ks[j]? = some e → kx h2 (.ref b) = e.1 := by
    intro j b e hj he
    obtain ⟨e', he', hp'⟩ := pin j b hj
    have ee : e' = e := Option.some.inj (he'.symm.trans he)
    rw [← ee]
    exact hp'.kx
  have at_ : ∀ v ∈ as.map Value.ref, ∃ (j : Nat) (b : Addr) (e : Str × Int), v = .ref b ∧ as[j]? = some b ∧ ks[j]? = some e := by
    intro v hv'
    obtain ⟨b, hb, rfl⟩ := List.mem_map.mp hv'
    obtain ⟨j, hj⟩ := List.mem_iff_getElem?.mp hb
    obtain ⟨e, he, _⟩ := pin j b hj
    exact ⟨j, b, e, rfl, hj, he⟩
  have pairs : ∀ v ∈ as.map Value.ref, PairSI h2 v (kx h2 v) (M (kx h2 v)) := by
    intro v hv
    obtain ⟨j, b, e, rfl, hj, he⟩ := at_ v hv
    obtain ⟨e', he', hp'⟩ := pin j b hj
    have ee : e' = e := Option.some.inj (he'.symm.trans he)
    subst ee
    rw [tx j b e' hj he, hM e' (List.mem_of_getElem? he)]
    exact hp'
  refine wpAny_call_entry PyProof.Rows.slot_list_sort ⟨_, hob, rfl⟩ PyProof.Rows.entry_list_sort
    (SrtO.list_sort_ord (s := { s with heap := h2, toks := tk }) (swoS (kx h2)) hob (by rw [List.length_map]; omega) (fun hl2 => pairs_sortableS (M := M) (by omega) pairs fun o e => ?_) fun out o1 o2 => ⟨.none, rfl, ?_⟩) (PyProof.Rows.args_list_sort _)
  · have e' : some o = some (seqObj "list" (as.map Value.ref).toArray 0) := e.symm.trans hob
    cases e'
    intro c
    exact absurd (Value.type.inj c) (by decide)
  · show EP X pins σ Q (.ref h'.objs.size) { s with heap := sortedHeap h2 h'.objs.size (as.map Value.ref) out.toArray, toks := tk }
    obtain ⟨zs, pz, ez⟩ := perm_lift (fun z : Addr × Str × Int => Value.ref z.1) o2.perm (as.zip ks) (by
      rw [show (fun z : Addr × Str × Int => Value.ref z.1) = Value.ref ∘ Prod.fst from rfl, ← List.map_map, List.map_fst_zip (by rw [lak]; exact Nat.le_refl _)])
    have idx : ∀ z ∈ zs, ∃ j : Nat, as[j]? = some z.1 ∧ ks[j]? = some z.2 := by
      intro z' hz'
      obtain ⟨j, hj⟩ := List.mem_iff_getElem?.mp (pz.mem_iff.mp hz')
      exact ⟨j, List.getElem?_zip_eq_some.mp hj⟩
    have hperm : (zs.map (·.2)).Perm ks := by
      have e := pz.map (·.2)
      have m2 : (as.zip ks).map (·.2) = ks := List.map_snd_zip (by rw [lak]; exact Nat.le_refl _)
      rw [m2] at e
      exact e
    have hkn : ((zs.map (·.2)).map (·.1)).Nodup := (hperm.map (·.1)).nodup_iff.mpr keysN
    have hsort : (zs.map (·.2)).Pairwise (fun e f => ltS e.1 f.1 = true) := by
      have o1' : (zs.map fun z => Value.ref z.1).Pairwise fun x y => ltS (kx h2 y) (kx h2 x) = false := by
        rw [ez]
        exact o1
      rw [List.pairwise_map] at o1'
      rw [List.map_map] at hkn
      have both := List.Pairwise.and o1' (List.pairwise_map.mp hkn)
      rw [List.pairwise_map]
      refine List.Pairwise.imp_of_mem (fun {x y} hx hy h => ?_) both
      obtain ⟨j, j1, j2⟩ := idx x hx
      obtain ⟨i, i1, i2⟩ := idx y hy
      obtain ⟨h1, h3⟩ := h
      rw [tx j _ _ j1 j2, tx i _ _ i1 i2] at h1
      cases e : ltS x.2.1 y.2.1 with
      | true => rfl
      | false => exact absurd (ltS_tri e h1) h3
    -- behind the sort
    have kF : ∀ b o, b ≠ h'.objs.size → h2.get? b = some o → (sortedHeap h2 h'.objs.size (as.map Value.ref) out.toArray).get? b = some o := fun b o hb e => (PyProof.Rows.sortedHeap_old hb (Heap.lt_size e)).trans e
    have kS : ∀ b o, s.heap.get? b = some o → (sortedHeap h2 h'.objs.size (as.map Value.ref) out.toArray).get? b = some o := fun b o e => kF b o (ne0 _ _ (hk b o e)) (kb b o e)
    obtain ⟨eF, heF⟩ := PyProof.Rows.sortedHeap_at (vs := as.map Value.ref) (out := out.toArray) hob
    have I1 : Inv X pins σ H { s with heap := sortedHeap h2 h'.objs.size (as.map Value.ref) out.toArray, toks := tk } := I.kept (t' := tk) kS
    have hn0 : H h'.objs.size = none := I.hok.fresh (Nat.le_of_lt hlt)
    have hlen : (zs.map fun z => V.ref z.1).length ≤ sizeLine := by
      have e := hperm.length_eq
      rw [List.length_map] at e
      rw [List.length_map]
      omega
    have rv : Vals (zs.map fun z => V.ref z.1) out := by
      rw [← ez]
      exact vals_maps (fun z : Addr × Str × Int => V.ref z.1) (fun z => Value.ref z.1) zs fun _ _ => rfl
    have I2 : Inv X pins σ (upd H h'.objs.size (.lst (zs.map fun z => V.ref z.1))) { s with heap := sortedHeap h2 h'.objs.size (as.map Value.ref) out.toArray, toks := tk } :=
      I1.take (h' := sortedHeap h2 h'.objs.size (as.map Value.ref) out.toArray) (t' := tk) (fun b ob _ e => e) (I.fpOk (Nat.le_of_lt hlt) hn0) ⟨hlen, out, eF, rv, heF⟩
    obtain ⟨H2, I3, g, qt⟩ := DX.takeT (P := fun b vs => ∃ (j : Nat) (e : Str × Int), as[j]? = some b ∧ ks[j]? = some e ∧ vs = [.str e.1, .int e.2]) I as _ I2 nd fun b hb => by
      obtain ⟨j, hj⟩ := List.mem_iff_getElem?.mp hb
      obtain ⟨e, t, u, he, hg⟩ := pr j b hj
      have hbl : s.heap.objs.size ≤ b := Nat.le_of_lt (hG.above b hb)
      refine ⟨hbl, ?_, [.str e.1, .int e.2], ⟨j, e, hj, he, rfl⟩, fun H3 => ⟨(by rw [sizeLine_eq]; show 2 ≤ 16777216; omega), [Value.str e.1 t, Value.int e.2 u], .cons ⟨t, rfl⟩ (.cons ⟨u, rfl⟩ .nil), ⟨_, kF _ _ (ne0 _ _ hg) (ka _ _ hg), rfl, 0, rfl⟩⟩⟩
      rw [upd_ne (ne0 _ _ hg)]
      exact I.hok.fresh hbl
    have gr : ∀ b o, H b = some o → H2 b = some o := fun b o e => g b o (by rw [upd_ne (ne_of_none e hn0)]; exact e)
    refine ⟨.ref h'.objs.size, H2, I3, rfl, q H2 h'.objs.size zs gr hn0 hperm hsort (g _ _ upd_same) fun z' hz' => ?_⟩
    obtain ⟨i, i1, i2⟩ := idx z' hz'
    refine ⟨I.hok.fresh (Nat.le_of_lt (hG.above _ (List.mem_of_getElem? i1))), ?_⟩
    obtain ⟨vs, ⟨j, e, j1, j2, ev⟩, hH⟩ := qt z'.1 (List.mem_of_getElem? i1)
    have eij : i = j := (List.getElem?_inj (List.getElem?_eq_some_iff.mp i1).1 nd).mp (i1.trans j1.symm)
    subst eij
    have ee : e = z'.2 := Option.some.inj (j2.symm.trans i2)
    rw [ev, ee] at hH
    exact hH
end
end WkI
set_option Elab.async false
set_option linter.all false
set_option maxRecDepth 100000
set_option maxHeartbeats 4000000
/-! The program's own: the words of a table, and how a beginning goes on. -/
namespace LB
open PySem L2 Wk
open Bg (Bg Wo)
theorem _root_.L2.Same.tp {K : PySem.W.Frag} {H H' : Hp} {a : Addr} {xs : List V} (e : Same H H') (h : SqT K H a xs) : SqT K H' a xs := by
  rcases h with (h | ⟨o, h⟩) | h
  · exact .inl (.inl (e _ _ h))
  · exact .inl (.inr ⟨o, e _ _ h⟩)
  · exact .inr h
theorem same_new {H : Hp} {a : Addr} {x : HO} (n : H a = none) : Same H (upd H a x) := fun b o e => by
  rw [upd_ne (ne_of_none e n)]
  exact e
/-! ### the words of a table -/
def enumW (f : Nat → Wo) (l : List Str) : List (Str × Wo) := l.zipIdx.map fun e => (e.1, f e.2)
theorem enumW_snoc (f : Nat → Wo) {l : List Str} {i : Nat} {x : Str} (h : l[i]? = some x) : enumW f (l.take (i + 1)) = enumW f (l.take i) ++ [(x, f i)] := by
  have il := (List.getElem?_eq_some_iff.mp h).1
  unfold enumW
  rw [List.take_add_one, h, List.zipIdx_append, List.map_append]
  have e : (l.take i).length = i := by
    rw [List.length_take]
    omega
  rw [e]
  show _ ++ [(x, f (0 + i))] = _
  rw [Nat.zero_add]
theorem enumW_fst (f : Nat → Wo) (l : List Str) : (enumW f l).map (·.1) = l := by
  unfold enumW
  rw [List.map_map]
  exact List.zipIdx_map_fst 0 l
theorem enumW_snd (f : Nat → Wo) (l : List Str) : (enumW f l).map (·.2) = (List.range l.length).map f := by
  unfold enumW
  rw [List.map_map, show ((fun e : Str × Wo => e.2) ∘ fun e : Str × Nat => (e.1, f e.2)) = f ∘ Prod.snd from rfl, ← List.map_map, List.zipIdx_map_snd, List.range_eq_range']
theorem enumW_len (f : Nat → Wo) (l : List Str) : (enumW f l).length = l.length := by
  unfold enumW
  rw [List.length_map, List.length_zipIdx]
def voc (ones tens : List Str) (hun : Str) (scales : List Str) : List (Str × Wo) :=
  (hun, .hun) :: (enumW (fun i => .low (i : Int)) ones ++ (enumW (fun i => .low (10 * ((i : Int) + 2))) tens ++ enumW .sc scales))
def entW (e : Str × Wo) : Key × V := (Sum.inr e.1, V.int e.2.val)
def entI (e : Str × Wo) : Str × Int := (e.1, e.2.val)
theorem entW_is (l : List (Str × Wo)) : l.map entW = (l.map entI).map WkI.entS := by
  rw [List.map_map]
  rfl
theorem voc_fst (ones tens : List Str) (hun : Str) (scales : List Str) : (voc ones tens hun scales).map (·.1) = hun :: (ones ++ (tens ++ scales)) := by
  unfold voc
  rw [List.map_cons, List.map_append, List.map_append, enumW_fst, enumW_fst, enumW_fst]
theorem voc_snd {ones tens : List Str} {hun : Str} {scales : List Str} (l1 : ones.length = 20) (l2 : tens.length = 8) : (voc ones tens hun scales).map (·.2) = Bg.all scales.length := by
  unfold voc
  rw [List.map_cons, List.map_append, List.map_append, enumW_snd, enumW_snd, enumW_snd, l1, l2]
  rfl
theorem voc_len (ones tens : List Str) (hun : Str) (scales : List Str) : (voc ones tens hun scales).length = 1 + (ones.length + (tens.length + scales.length)) := by
  rw [← List.length_map (·.1), voc_fst, List.length_cons, List.length_append, List.length_append]
  omega
theorem perm_hun (ones tens : List Str) (hun : Str) (scales : List Str) : (hun :: (ones ++ (tens ++ scales))).Perm (ones ++ (tens ++ hun :: scales)) := by
  have a : (hun :: (tens ++ scales)).Perm (tens ++ hun :: scales) := List.perm_middle.symm
  have b : (hun :: (ones ++ (tens ++ scales))).Perm (ones ++ (hun :: (tens ++ scales))) := List.perm_middle.symm
  exact b.trans (List.Perm.append_left ones a)
theorem val_no {l : List (Str × Wo)} {x : Str} (h : ¬ x ∈ l.map (·.1)) : valV (l.map entW) (Sum.inr x : Key) = none := by
  unfold valV
  rw [List.find?_eq_none.mpr]
  · rfl
  · intro p hp
    obtain ⟨y, hy, rfl⟩ := List.mem_map.mp hp
    simp only [decide_eq_true_eq]
    intro e
    exact h (List.mem_map.mpr ⟨y, hy, Sum.inr.inj e⟩)
/-- one word more in the dict -/
theorem put_word {l : List (Str × Wo)} {x : Str} {o : Wo} (h : ¬ x ∈ l.map (·.1)) : putK (l.map entW) (Sum.inr x : Key) (.int o.val) = (l ++ [(x, o)]).map entW := by
  rw [putK_new _ (val_no h), List.map_append]
  rfl
def spWorths : Sp := fun vs H Q _ => ∃ (t o te sc : Addr) (ones tens : List Str) (hun : Str) (scales : List Str), vs = [.ref t] ∧ TabAt H t ones tens hun scales o te sc ∧ ones.length ≤ 100 ∧ tens.length ≤ 100 ∧ scales.length ≤ 500 ∧
  (ones ++ (tens ++ hun :: scales)).Nodup ∧ ∀ p H', H p = none → Same H H' → H' p = some (.dK ((voc ones tens hun scales).map entW)) → Q (.ref p) H'
section
variable {P : Program} {w : World} {K : PySem.W.Frag} {mg : Str → Option Value} {base : Heap}
theorem scWorths : FnScope ["table", "ones", "tens", "hundred", "scales", "found", "digit", "word", "at", "worth"] ["table"] (defScope sWorths) := ⟨rfl, rfl, rfl, by decide +kernel, rfl, by decide +kernel, by decide +kernel⟩
theorem str_at {l : List Str} {i : Nat} {y : V} (h : (l.map V.str)[i]? = some y) : ∃ z, l[i]? = some z ∧ y = .str z := by
  rw [List.getElem?_map] at h
  cases q : l[i]? with
  | none =>
    rw [q] at h
    cases h
  | some z =>
    rw [q] at h
    exact ⟨z, rfl, (Option.some.inj h).symm⟩
theorem ok_worths {f : Addr} {fd : FuncData} (F : Fun K "worths" "worths" sWorths f fd) (mE : mg "enumerate" = none) : FnOk P w K mg base CX0 1 f fd ["table"] spWorths := by
  refine F.ok scWorths (fun vs H Q E h => ?_) (fun cdv A outer s H vs Q E hr h => ?_)
  · obtain ⟨t, o, te, sc, ones, tens, hun, scales, rfl, _⟩ := h
    rfl
  · obtain ⟨t, o, te, sc, ones, tens, hun, scales, rfl, TA, l1, l2, l3, nd, k⟩ := h
    have hu := hu_of hr
    refine ⟨_, pss_cons (ps_asg (pv 0) (pg_tup (by rfl) (pgs_cons (pg_name (i := 1) scWorths.nd rfl (.inl rfl)) (pgs_cons (pg_name (i := 2) scWorths.nd rfl (.inl rfl)) (pgs_cons (pg_name (i := 3) scWorths.nd rfl (.inl rfl)) (pgs_cons (pg_name (i := 4) scWorths.nd rfl (.inl rfl)) pgs_nil))))))
      (pss_cons (ps_set (i := 5) scWorths.nd rfl (.inl rfl) (pe_disp (pps_cons (pv 3) pe_int pps_nil) (by rfl) (by rfl) (fun z => by cases z) (by decide)))
      (pss_mid (ps_for PassesOwn.never rfl (pi_enum rfl mE (pa_cons (pv 1) pa_nil)) (pg_tup (by rfl) (pgs_cons (pg_name (i := 6) scWorths.nd rfl (.inl rfl)) (pgs_cons (pg_name (i := 7) scWorths.nd rfl (.inl rfl)) pgs_nil)))
        (pss_one (ps_dput hu (pv 5) (pv 7) (pv 6) rfl)))
      (pss_mid (ps_for PassesOwn.never rfl (pi_enum rfl mE (pa_cons (pv 2) pa_nil)) (pg_tup (by rfl) (pgs_cons (pg_name (i := 8) scWorths.nd rfl (.inl rfl)) (pgs_cons (pg_name (i := 7) scWorths.nd rfl (.inl rfl)) pgs_nil)))
        (pss_one (ps_dput hu (pv 5) (pv 7) (pe_op op_mul pe_int (pe_op op_add (pv 8) pe_int)) rfl)))
      (pss_cons (ps_set (i := 9) scWorths.nd rfl (.inl rfl) pe_int)
      (pss_cons (ps_for PassesOwn.never rfl (pi_list (pv 4)) (pg_name (i := 7) scWorths.nd rfl (.inl rfl))
        (pss_cons (ps_set (i := 9) scWorths.nd rfl (.inl rfl) (pe_op op_mul (pv 9) pe_int))
        (pss_one (ps_dput hu (pv 5) (pv 7) (pv 9) rfl))))
      (pss_one (ps_ret (pv 5)))))))), ?_⟩
    refine ⟨_, rfl, t, _, rfl, SqT.of TA.tup, rfl, _, _, rfl, _, _, rfl, _, _, rfl, _, _, rfl, rfl, ?_⟩
    intro p np
    have s0 : Same H (upd H p (.dK [])) := same_new np
    refine ⟨_, rfl, upd_same, [(Sum.inr hun, V.int 100)], rfl, (by show 1 ≤ 15; decide), ?_⟩
    rw [show upd (upd H p (.dK [])) p (.dK (mergeK [] [((Sum.inr hun : Key), V.int 100)])) = upd H p (.dK (([(hun, .hun)] : List (Str × Wo)).map entW)) by
      funext b
      by_cases e : b = p
      · rw [e, upd_same, upd_same]
        rfl
      · rw [upd_ne e, upd_ne e, upd_ne e]]
    have ndp : (hun :: (ones ++ (tens ++ scales))).Nodup := (perm_hun ones tens hun scales).nodup_iff.mpr nd
    have big : 1000 ≤ sizeLine := by decide
    have L1 : ∀ i, (((hun, Wo.hun) :: enumW (fun i => .low (i : Int)) (ones.take i)).map (·.1)) = hun :: ones.take i := fun i => by rw [List.map_cons, enumW_fst]
    refine ⟨fun τ G => ∃ a b : Option V, τ = [some (.ref t), some (.ref o), some (.ref te), some (.str hun), some (.ref sc), some (.ref p), a, b, none, none] ∧ Same H G ∧ G p = some (.dK (((hun, Wo.hun) :: enumW (fun i => .low (i : Int)) ones).map entW)), ?_, ?_⟩
    · refine ⟨_, rfl, o, _, rfl, SqL.of ((same_new np) _ _ TA.lo), ?_⟩
      refine for_it (walk_enum (K := K) (a := o) (xs := ones.map V.str)) (fun i τ G => ∃ a b : Option V, τ = [some (.ref t), some (.ref o), some (.ref te), some (.str hun), some (.ref sc), some (.ref p), a, b, none, none] ∧ Same H G ∧ G p = some (.dK (((hun, Wo.hun) :: enumW (fun i => .low (i : Int)) (ones.take i)).map entW))) ?_ ?_ ?_ ?_
      · exact ⟨none, none, rfl, same_new np, upd_same⟩
      · rintro i σ G _ ⟨_, _, _, s1, _⟩
        exact SqL.of (s1 _ _ TA.lo)
      · rintro i x σ G H' hi ⟨a, b, rfl, s1, hp⟩ ⟨T, y1, y2, rfl, nT, rfl, e1, e2⟩
        cases e1
        obtain ⟨z, hz, rfl⟩ := str_at e2
        have il := (List.getElem?_eq_some_iff.mp hz).1
        refine ⟨T, _, rfl, SqT.of upd_same, rfl, _, _, rfl, _, _, rfl, rfl, ?_⟩
        have pT : p ≠ T := ne_of_none hp nT
        have no : ¬ z ∈ ((hun, Wo.hun) :: enumW (fun i => .low (i : Int)) (ones.take i)).map (·.1) := by
          rw [L1]
          have n2 : (hun :: ones).Nodup := by
            have q := (List.nodup_append (l₁ := hun :: ones) (l₂ := tens ++ scales)).mp ndp
            exact q.1
          intro hm
          rcases List.mem_cons.mp hm with e | hm
          · exact (List.nodup_cons.mp n2).1 (e ▸ List.mem_of_getElem? hz)
          · exact not_before (List.nodup_cons.mp n2).2 hz hm
        refine ⟨_, rfl, _, rfl, _, rfl, p, _, rfl, DPut.k (k := (Sum.inr z : Key)) (v := .int (i : Int)) (by rw [upd_ne pT]; exact hp) ?_, ?_⟩
        · rw [List.length_map, List.length_cons, enumW_len, List.length_take]
          omega
        · refine ⟨_, _, rfl, fun q u e => ?_, ?_⟩
          · rw [upd_ne (ne_of_none e np), upd_ne (ne_of_none (s1 _ _ e) nT)]
            exact s1 _ _ e
          · rw [upd_same]
            have e := put_word (o := .low (i : Int)) no
            rw [show V.int (Wo.val (.low (i : Int))) = V.int (i : Int) from rfl] at e
            rw [e, enumW_snoc _ hz]
            rfl
      · rintro σ G ⟨a, b, rfl, s1, hp⟩
        rw [List.length_map, List.take_length] at hp
        exact ⟨a, b, rfl, s1, hp⟩
    rintro τ G ⟨a1, b1, rfl, s1, hp⟩
    have L2 : ∀ i, (((hun, Wo.hun) :: (enumW (fun i => .low (i : Int)) ones ++ enumW (fun i => .low (10 * ((i : Int) + 2))) (tens.take i))).map (·.1)) = hun :: (ones ++ tens.take i) := fun i => by rw [List.map_cons, List.map_append, enumW_fst, enumW_fst]
    refine ⟨fun τ G => ∃ a b c : Option V, τ = [some (.ref t), some (.ref o), some (.ref te), some (.str hun), some (.ref sc), some (.ref p), a, b, c, none] ∧ Same H G ∧ G p = some (.dK (((hun, Wo.hun) :: (enumW (fun i => .low (i : Int)) ones ++ enumW (fun i => .low (10 * ((i : Int) + 2))) tens)).map entW)), ?_, ?_⟩
    · refine ⟨_, rfl, te, _, rfl, SqL.of (s1 _ _ TA.lt), ?_⟩
      refine for_it (walk_enum (K := K) (a := te) (xs := tens.map V.str)) (fun i τ G => ∃ a b c : Option V, τ = [some (.ref t), some (.ref o), some (.ref te), some (.str hun), some (.ref sc), some (.ref p), a, b, c, none] ∧ Same H G ∧ G p = some (.dK (((hun, Wo.hun) :: (enumW (fun i => .low (i : Int)) ones ++ enumW (fun i => .low (10 * ((i : Int) + 2))) (tens.take i))).map entW))) ?_ ?_ ?_ ?_
      · refine ⟨a1, b1, none, rfl, s1, ?_⟩
        rw [hp]
        simp [enumW]
      · rintro i σ G _ ⟨_, _, _, _, s2, _⟩
        exact SqL.of (s2 _ _ TA.lt)
      · rintro i x σ G H' hi ⟨a, b, c, rfl, s2, hp2⟩ ⟨T, y1, y2, rfl, nT, rfl, e1, e2⟩
        cases e1
        obtain ⟨z, hz, rfl⟩ := str_at e2
        have il := (List.getElem?_eq_some_iff.mp hz).1
        refine ⟨T, _, rfl, SqT.of upd_same, rfl, _, _, rfl, _, _, rfl, rfl, ?_⟩
        have pT : p ≠ T := ne_of_none hp2 nT
        have no : ¬ z ∈ ((hun, Wo.hun) :: (enumW (fun i => .low (i : Int)) ones ++ enumW (fun i => .low (10 * ((i : Int) + 2))) (tens.take i))).map (·.1) := by
          rw [L2]
          have n2 : ((hun :: ones) ++ tens).Nodup := by
            have e : hun :: (ones ++ (tens ++ scales)) = ((hun :: ones) ++ tens) ++ scales := by simp
            rw [e] at ndp
            exact (List.nodup_append.mp ndp).1
          have q := List.nodup_append.mp n2
          intro hm
          rw [show hun :: (ones ++ tens.take i) = (hun :: ones) ++ tens.take i from rfl] at hm
          rcases List.mem_append.mp hm with hm | hm
          · exact q.2.2 z hm z (List.mem_of_getElem? hz) rfl
          · exact not_before q.2.1 hz hm
        refine ⟨_, rfl, _, _, rfl, rfl, _, _, rfl, rfl, .inl ⟨by decide, by decide⟩, _, rfl, _, rfl, p, _, rfl, DPut.k (k := (Sum.inr z : Key)) (v := .int (10 * ((i : Int) + 2))) (by rw [upd_ne pT]; exact hp2) ?_, ?_⟩
        · rw [List.length_map, List.length_cons, List.length_append, enumW_len, enumW_len, List.length_take]
          omega
        · refine ⟨_, _, _, rfl, fun q u e => ?_, ?_⟩
          · rw [upd_ne (ne_of_none e np), upd_ne (ne_of_none (s2 _ _ e) nT)]
            exact s2 _ _ e
          · rw [upd_same]
            have e := put_word (o := .low (10 * ((i : Int) + 2))) no
            rw [show V.int (Wo.val (.low (10 * ((i : Int) + 2)))) = V.int (10 * ((i : Int) + 2)) from rfl] at e
            rw [e, enumW_snoc _ hz]
            simp
      · rintro σ G ⟨a, b, c, rfl, s2, hp2⟩
        rw [List.length_map, List.take_length] at hp2
        exact ⟨a, b, c, rfl, s2, hp2⟩
    rintro τ G2 ⟨a2, b2, c2, rfl, s2, hp2⟩
    refine ⟨_, rfl, sc, rfl, ⟨_, SqL.of (s2 _ _ TA.ls)⟩, ?_⟩
    refine for_list (K := K) (a := sc) (xs := scales.map V.str) (fun i τ G => ∃ b : Option V, τ = [some (.ref t), some (.ref o), some (.ref te), some (.str hun), some (.ref sc), some (.ref p), a2, b, c2, some (.int (Bg.W i))] ∧ Same H G ∧
      G p = some (.dK (((hun, Wo.hun) :: (enumW (fun i => .low (i : Int)) ones ++ (enumW (fun i => .low (10 * ((i : Int) + 2))) tens ++ enumW .sc (scales.take i)))).map entW))) ?_ ?_ ?_ ?_
    · refine ⟨b2, rfl, s2, ?_⟩
      rw [hp2]
      simp [enumW]
    · rintro i σ G _ ⟨_, _, s3, _⟩
      exact SqL.of (s3 _ _ TA.ls)
    · rintro i y σ G hi ⟨b, rfl, s3, hp3⟩
      obtain ⟨z, hz, rfl⟩ := str_at hi
      have il := (List.getElem?_eq_some_iff.mp hz).1
      have no : ¬ z ∈ ((hun, Wo.hun) :: (enumW (fun i => .low (i : Int)) ones ++ (enumW (fun i => .low (10 * ((i : Int) + 2))) tens ++ enumW .sc (scales.take i)))).map (·.1) := by
        rw [List.map_cons, List.map_append, List.map_append, enumW_fst, enumW_fst, enumW_fst]
        have e : hun :: (ones ++ (tens ++ scales)) = ((hun :: ones) ++ tens) ++ scales := by simp
        rw [e] at ndp
        have q := List.nodup_append.mp ndp
        intro hm
        rw [show hun :: (ones ++ (tens ++ scales.take i)) = ((hun :: ones) ++ tens) ++ scales.take i by simp] at hm
        rcases List.mem_append.mp hm with hm | hm
        · exact q.2.2 z hm z (List.mem_of_getElem? hz) rfl
        · exact not_before q.2.1 hz hm
      refine ⟨_, rfl, _, _, rfl, rfl, .inr ⟨by decide, by decide⟩, _, rfl, _, rfl, _, rfl, p, _, rfl, DPut.k (k := (Sum.inr z : Key)) (v := .int (Bg.W i * 1000)) hp3 ?_, ?_⟩
      · rw [List.length_map, List.length_cons, List.length_append, List.length_append, enumW_len, enumW_len, enumW_len, List.length_take]
        omega
      · refine ⟨some (.str z), ?_, fun q u e => ?_, ?_⟩
        · rw [Bg.W_succ, Int.mul_comm]
          rfl
        · rw [upd_ne (ne_of_none e np)]
          exact s3 _ _ e
        · rw [upd_same]
          have e := put_word (o := .sc i) no
          rw [show V.int (Wo.val (.sc i)) = V.int (Bg.W i * 1000) by show V.int (Bg.W (i + 1)) = _; rw [Bg.W_succ, Int.mul_comm]] at e
          rw [e, enumW_snoc _ hz]
          simp
    · rintro σ G ⟨b, rfl, s3, hp3⟩
      rw [List.length_map, List.take_length] at hp3
      exact ⟨_, rfl, k p G np s3 hp3⟩
end
end LB
set_option Elab.async false
set_option linter.all false
set_option maxRecDepth 100000
set_option maxHeartbeats 4000000
/-! The program's own: a word more behind a beginning, all words that may come. -/
namespace LB
open PySem L2 Wk
open Bg (Bg Wo)
/-- the vocabulary in its order, as the program holds it -/
def VocAt (H : Hp) (l : Addr) (vs : List (Addr × Str × Wo)) : Prop := H l = some (.lst (vs.map fun z => V.ref z.1)) ∧ ∀ z ∈ vs, H z.1 = some (.tup [.str z.2.1, .int z.2.2.val])
theorem VocAt.same {H H' : Hp} {l : Addr} {vs : List (Addr × Str × Wo)} (h : VocAt H l vs) (s : Same H H') : VocAt H' l vs := ⟨s _ _ h.1, fun z hz => s _ _ (h.2 z hz)⟩
def ascW (l : List (Str × Wo)) : Prop := l.Pairwise fun e f => WkI.ltS e.1 f.1 = true
def spVocab : Sp := fun vs H Q _ => ∃ (t o te sc : Addr) (ones tens : List Str) (hun : Str) (scales : List Str), vs = [.ref t] ∧ TabAt H t ones tens hun scales o te sc ∧ ones.length ≤ 100 ∧ tens.length ≤ 100 ∧ scales.length ≤ 500 ∧
  (ones ++ (tens ++ hun :: scales)).Nodup ∧ ∀ l vz H', H l = none → Same H H' → VocAt H' l vz → (∀ z ∈ vz, H z.1 = none) → (vz.map (·.2)).Perm (voc ones tens hun scales) → ascW (vz.map (·.2)) → Q (.ref l) H'
def spStart (K : PySem.W.Frag) : Sp := fun vs H Q _ => ∃ (t o te sc : Addr) (ones tens : List Str) (hun : Str) (scales : List Str), vs = [.ref t] ∧ TabAt H t ones tens hun scales o te sc ∧ scales.length ≤ 900 ∧
  ∀ p H', H p = none → Same H H' → SqT K H' p (BgV (Bg.start scales.length)) → Q (.ref p) H'
def spFol (K : PySem.W.Frag) : Sp := fun vs H Q _ => ∃ (p : Addr) (b : Bg) (x : Wo), vs = [.ref p, .int x.val] ∧ SqT K H p (BgV b) ∧ Bg.Ok b ∧ Bg.WOk x ∧
  (Bg.fol b x = none → Q .non H) ∧ ∀ c, Bg.fol b x = some c → ∀ q H', Same H H' → SqT K H' q (BgV c) → Q (.ref q) H'
def stepsOf (b : Bg) (ws : List (Str × Wo)) : List (Str × Bg) := ws.filterMap fun e => (Bg.fol b e.2).map fun c => (e.1, c)
def StAt (K : PySem.W.Frag) (H : Hp) (l : Addr) (cs : List (Addr × Str × Addr × Bg)) : Prop := H l = some (.lst (cs.map fun c => V.ref c.1)) ∧ ∀ c ∈ cs, H c.1 = some (.tup [.str c.2.1, .ref c.2.2.1]) ∧ SqT K H c.2.2.1 (BgV c.2.2.2)
theorem StAt.same {K : PySem.W.Frag} {H H' : Hp} {l : Addr} {cs : List (Addr × Str × Addr × Bg)} (h : StAt K H l cs) (s : Same H H') : StAt K H' l cs := ⟨s _ _ h.1, fun c hc => ⟨s _ _ (h.2 c hc).1, s.tp (h.2 c hc).2⟩⟩
def pairS (c : Addr × Str × Addr × Bg) : Str × Bg := (c.2.1, c.2.2.2)
def spSteps (K : PySem.W.Frag) : Sp := fun vs H Q _ => ∃ (p : Addr) (b : Bg) (l : Addr) (vz : List (Addr × Str × Wo)), vs = [.ref p, .ref l] ∧ SqT K H p (BgV b) ∧ Bg.Ok b ∧ VocAt H l vz ∧ vz.length ≤ 1000 ∧ (∀ z ∈ vz, Bg.WOk z.2.2) ∧
  ∀ q cs H', H q = none → Same H H' → StAt K H' q cs → cs.map pairS = stepsOf b (vz.map (·.2)) → Q (.ref q) H'
theorem limit_W (scales : List Str) : limitOf scales = Bg.W (scales.length + 1) := by
  rw [Bg.W_succ]
  rfl
/-- a tuple of beginnings under a list that grows -/
theorem _root_.L2.SqT.grow {K : PySem.W.Frag} {H : Hp} {a l : Addr} {xs ys zs : List V} (h : SqT K H a xs) (hl : H l = some (.lst ys)) : SqT K (upd H l (.lst zs)) a xs := by
  have ne : ∀ o, H a = some o → (∀ w, o ≠ .lst w) → a ≠ l := fun o e n z => by
    rw [z, hl] at e
    cases e
    exact n ys rfl
  rcases h with (h | ⟨o, h⟩) | h
  · exact .inl (.inl (by rw [upd_ne (ne _ h fun w z => by cases z)]; exact h))
  · exact .inl (.inr ⟨o, by rw [upd_ne (ne _ h fun w z => by cases z)]; exact h⟩)
  · exact .inr h
section
variable {P : Program} {w : World} {K : PySem.W.Frag} {mg : Str → Option Value} {base : Heap}
theorem scVocab : FnScope ["table", "meanings"] ["table"] (defScope sVocab) := ⟨rfl, rfl, rfl, by decide +kernel, rfl, by decide +kernel, by decide +kernel⟩
theorem ok_vocab {f fW : Addr} {fd dW : FuncData} (F : Fun K "vocabulary" "vocabulary" sVocab f fd) (DW : Def1 P w K mg base "worths" 1 fW dW ["table"] spWorths) (mS : mg "sorted" = none) : FnOk P w K mg base CX0 2 f fd ["table"] spVocab := by
  refine F.ok scVocab (fun vs H Q E h => ?_) (fun cdv A outer s H vs Q E hr h => ?_)
  · obtain ⟨t, o, te, sc, ones, tens, hun, scales, rfl, _⟩ := h
    rfl
  · obtain ⟨t, o, te, sc, ones, tens, hun, scales, rfl, TA, l1, l2, l3, nd, k⟩ := h
    refine ⟨_, pss_cons (ps_set (i := 1) scVocab.nd rfl (.inl rfl) (pe_call DW.ok hr (by rfl) DW.g DW.k DW.b .nil pass0 (pa_cons (pv 0) pa_nil)))
      (pss_one (ps_ret (pe_callB (WkI.cr_sortedItK rfl) (by rfl) mS (by decide +kernel) (pa_cons (pe_bm0 PySem.F.plainAttrs_dict PySem.F.slot_dict_items PySem.F.type_dict_items WkI.mt_itemsK (pv 1)) pa_nil)))), ?_⟩
    refine ⟨_, rfl, t, o, te, sc, ones, tens, hun, scales, rfl, TA, l1, l2, l3, nd, fun p H1 np s1 hp => ?_⟩
    refine ⟨_, rfl, .inr (.inr (.inl ⟨rfl, .inl ⟨_, hp⟩⟩)), p, _, rfl, rfl, hp, fun v nv => ?_⟩
    have s2 : Same H1 (upd H1 v (L2.DX.itemsO v p)) := same_new nv
    have n1 : H v = none := s1.free nv
    rw [entW_is] at hp
    refine ⟨v, p, (voc ones tens hun scales).map entI, rfl, upd_same, s2 _ _ hp, ?_, fun H3 l ps s3 nl hperm hasc hl hps => ?_⟩
    · rw [List.length_map, voc_len]
      omega
    obtain ⟨zs, pz, ez⟩ := perm_lift entI hperm (voc ones tens hun scales) rfl
    have ez' : zs.map entI = ps.map (·.2) := ez
    have lz : zs.length = ps.length := by
      have := congrArg List.length ez'
      rw [List.length_map, List.length_map] at this
      exact this
    let vz : List (Addr × Str × Wo) := (ps.map (·.1)).zip zs
    have v1 : vz.map (·.1) = ps.map (·.1) := List.map_fst_zip (by rw [List.length_map, lz]; exact Nat.le_refl _)
    have v2 : vz.map (·.2) = zs := List.map_snd_zip (by rw [List.length_map, lz]; exact Nat.le_refl _)
    have fine : ∀ z ∈ vz, H z.1 = none ∧ H3 z.1 = some (.tup [.str z.2.1, .int z.2.2.val]) := by
      intro z hz
      obtain ⟨j, hj⟩ := List.mem_iff_getElem?.mp hz
      obtain ⟨j1, j2⟩ := List.getElem?_zip_eq_some.mp hj
      have e := congrArg (fun l => l[j]?) ez'
      simp only [List.getElem?_map] at e
      rw [j2] at e
      rw [List.getElem?_map] at j1
      cases hpj : ps[j]? with
      | none =>
        rw [hpj] at j1
        cases j1
      | some y =>
        rw [hpj] at e j1
        have e1 : y.1 = z.1 := Option.some.inj j1
        have e2 : entI z.2 = y.2 := Option.some.inj e
        obtain ⟨y1, y2⟩ := hps y (List.mem_of_getElem? hpj)
        rw [e1, ← e2] at y2
        rw [e1] at y1
        exact ⟨s1.free (s2.free y1), y2⟩
    refine k l vz H3 (s1.free (s2.free nl)) (s1.trans (s2.trans s3)) ⟨?_, fun z hz => (fine z hz).2⟩ (fun z hz => (fine z hz).1) ?_ ?_
    · rw [hl, show (fun z : Addr × Str × Wo => V.ref z.1) = V.ref ∘ Prod.fst from rfl, ← List.map_map, v1, List.map_map]
      rfl
    · rw [v2]
      exact pz
    · rw [v2]
      rw [← ez', List.pairwise_map] at hasc
      exact hasc
theorem scStart : FnScope ["table"] ["table"] (defScope sStart) := ⟨rfl, rfl, rfl, by decide +kernel, rfl, by decide +kernel, by decide +kernel⟩
theorem ok_start {f fT : Addr} {fd dT : FuncData} (F : Fun K "start" "start" sStart f fd) (DT : Def1 P w K mg base "top_of" 1 fT dT ["table"] spTopOf) : FnOk P w K mg base CX0 2 f fd ["table"] (spStart K) := by
  refine F.ok scStart (fun vs H Q E h => ?_) (fun cdv A outer s H vs Q E hr h => ?_)
  · obtain ⟨t, o, te, sc, ones, tens, hun, scales, rfl, _⟩ := h
    rfl
  · obtain ⟨t, o, te, sc, ones, tens, hun, scales, rfl, TA, l3, k⟩ := h
    refine ⟨_, pss_one (ps_ret (pe_tup (pa_cons pe_int (pa_cons pe_int (pa_cons pe_int (pa_cons (pe_call DT.ok hr (by rfl) DT.g DT.k DT.b .nil pass0 (pa_cons (pv 0) pa_nil)) pa_nil)))))), ?_⟩
    refine ⟨_, rfl, t, o, te, sc, ones, tens, hun, scales, rfl, TA, l3, by show 4 ≤ sizeLine; decide, fun p np => k p _ np (same_new np) (SqT.of ?_)⟩
    rw [upd_same, limit_W]
    rfl
theorem scFollowed : FnScope ["beginning", "worth", "total", "group", "room", "top"] ["beginning", "worth"] (defScope sFollowed) := ⟨rfl, rfl, rfl, by decide +kernel, rfl, by decide +kernel, by decide +kernel⟩
theorem int_dec {a b : Int} : decide (V.int a = V.int b) = decide (a = b) := decide_eq_decide.mpr ⟨fun z => V.int.inj z, fun z => by rw [z]⟩
theorem ok_followed {f fH Z : Addr} {fd dH : FuncData} (F : Fun K "followed" "followed" sFollowed f fd) (DH : Def1 P w K mg base "_has_words" 1 fH dH ["beginning"] (spHas K)) (gZ : mg "ZERO" = some (.ref Z)) (hZ : ∀ H, SqT K H Z (BgV Bg.zero)) :
    FnOk P w K mg base CX0 2 f fd ["beginning", "worth"] (spFol K) := by
  refine F.ok scFollowed (fun vs H Q E h => ?_) (fun cdv A outer s H vs Q E hr h => ?_)
  · obtain ⟨p, b, x, rfl, _⟩ := h
    rfl
  · obtain ⟨p, b, x, rfl, hb, ok, hx, kN, kS⟩ := h
    have bd := ok.bnd
    refine ⟨_, pss_cons (ps_asg (pv 0) (pg_tup (by rfl) (pgs_cons (pg_name (i := 2) scFollowed.nd rfl (.inl rfl)) (pgs_cons (pg_name (i := 3) scFollowed.nd rfl (.inl rfl)) (pgs_cons (pg_name (i := 4) scFollowed.nd rfl (.inl rfl)) (pgs_cons (pg_name (i := 5) scFollowed.nd rfl (.inl rfl)) pgs_nil))))))
      (pss_cons (ps_if (pt_cmpR op_eq (pv 1) pe_int (nomark _)) (pss_one (ps_ret (pe_ifExp (pt_val (pe_call DH.ok hr (by rfl) DH.g DH.k DH.b .nil pass0 (pa_cons (pv 0) pa_nil))) pe_non (pe_glob (v := .ref Z) rfl gZ rfl)))) pss_nil)
      (pss_cons (ps_if (pt_cmpR op_gt (pv 1) pe_int (nomark _)) (pss_one (ps_ret (pe_ifExp (PW.pt (pw_and (pt_cmpR op_gt (pv 3) pe_int (nomark _)) (pw_and1 (pt_cmpR op_lt (pv 1) (pv 5) (nomark _)))))
        (pe_tup (pa_cons (pe_op op_add (pv 2) (pe_op op_mul (pv 3) (pv 1))) (pa_cons pe_int (pa_cons pe_int (pa_cons (pv 1) pa_nil))))) pe_non))) pss_nil)
      (pss_cons (ps_if (pt_cmpR op_eq (pv 1) pe_int (nomark _)) (pss_one (ps_ret (pe_ifExp (pt_chain op_lt op_lt pe_int (pv 3) pe_int)
        (pe_tup (pa_cons (pv 2) (pa_cons (pe_op op_mul (pv 3) pe_int) (pa_cons pe_int (pa_cons (pv 5) pa_nil))))) pe_non))) pss_nil)
      (pss_cons (ps_if (pt_cmpR op_ge (pv 1) pe_int (nomark _)) (pss_one (ps_ret (pe_ifExp (pt_cmpR op_eq (pv 4) pe_int (nomark _))
        (pe_tup (pa_cons (pv 2) (pa_cons (pe_op op_add (pv 3) (pv 1)) (pa_cons (pe_ifExp (pt_cmpR op_ge (pv 1) pe_int (nomark _)) pe_int pe_int) (pa_cons (pv 5) pa_nil))))) pe_non))) pss_nil)
      (pss_one (ps_ret (pe_ifExp (pt_cmpR op_ge (pv 4) pe_int (nomark _)) (pe_tup (pa_cons (pv 2) (pa_cons (pe_op op_add (pv 3) (pv 1)) (pa_cons pe_int (pa_cons (pv 5) pa_nil))))) pe_non))))))), ?_⟩
    refine ⟨_, rfl, p, _, rfl, hb, rfl, _, _, rfl, _, _, rfl, _, _, rfl, _, _, rfl, rfl, ?_⟩
    have four : ∀ {c : Bg}, Bg.fol b x = some c → ([V.int c.t, V.int c.g, V.int c.r, V.int (Bg.W c.m)]).length ≤ sizeLine ∧ ∀ q, H q = none → Q (.ref q) (upd H q (.tup [.int c.t, .int c.g, .int c.r, .int (Bg.W c.m)])) := fun {c} e =>
      ⟨by show 4 ≤ sizeLine; decide, fun q nq => kS c e q _ (same_new nq) (SqT.of upd_same)⟩
    have end_ : ∀ {c : Prop} [Decidable c] {y : Bg}, (Bg.fol b x = if c then some y else none) → (¬ c → Q V.non H) := fun {c _ y} e n => kN (by rw [e, if_neg n])
    have got : ∀ {c : Prop} [Decidable c] {y : Bg}, (Bg.fol b x = if c then some y else none) → c → Bg.fol b x = some y := fun {c _ y} e n => by rw [e, if_pos n]
    refine ⟨_, rfl, rfl, _, rfl, ite2 (fun c0 => ?_) (fun c0 => ?_)⟩
    · -- the word of 0
      have v0 : x.val = 0 := V.int.inj (of_decide_eq_true c0)
      obtain rfl : x = .low 0 := by
        cases x with
        | low n => exact congrArg Wo.low v0
        | hun => exact absurd (show (100 : Int) = 0 from v0) (by decide)
        | sc i =>
          have h1 : Bg.W (i + 1) = 0 := v0
          have := Bg.W_pos (i + 1)
          omega
      have e : Bg.fol b (.low 0) = if Bg.has b = true then none else some Bg.zero := by
        unfold Bg.fol
        rfl
      refine ⟨_, rfl, p, b, rfl, hb, _, rfl, ?_⟩
      cases hh : Bg.has b with
      | true => exact iteT (kN (by rw [e, hh]; rfl))
      | false => exact iteF (kS Bg.zero (by rw [e, hh]; rfl) Z H (Same.refl _) (hZ H))
    have v0 : x.val ≠ 0 := fun z => c0 (decide_eq_true (by rw [z]))
    refine ⟨_, rfl, _, _, rfl, rfl, _, rfl, ite2 (fun c1 => ?_) (fun c1 => ?_)⟩
    · -- a scale word
      have v1 : x.val > 100 := of_decide_eq_true c1
      obtain ⟨i, rfl⟩ : ∃ i, x = .sc i := by
        cases x with
        | low n =>
          have v1' : n > 100 := v1
          rcases hx with hx | ⟨k, k2, k9, rfl⟩ <;> omega
        | hun => exact absurd (show (100 : Int) > 100 from v1) (by decide)
        | sc i => exact ⟨i, rfl⟩
      have e : Bg.fol b (.sc i) = if b.g > 0 ∧ i + 1 < b.m then some ⟨b.t + b.g * Bg.W (i + 1), 0, 100, i + 1⟩ else none := rfl
      refine ⟨_, rfl, _, _, rfl, rfl, _, rfl, ite2 (fun d => ?_) (fun d => ?_)⟩
      · refine ⟨_, rfl, _, rfl, _, _, rfl, rfl, _, rfl, ite2 (fun d2 => ?_) (fun d2 => ?_)⟩
        · have g := got e ⟨of_decide_eq_true d, Bg.W_inj.mp (of_decide_eq_true d2)⟩
          exact ⟨_, rfl, _, rfl, _, rfl, _, _, rfl, rfl, .inl ⟨by omega, by omega⟩, _, _, rfl, rfl, _, rfl, four g⟩
        · exact end_ e fun z => d2 (decide_eq_true (Bg.W_inj.mpr z.2))
      · exact iteF (end_ e fun z => d (decide_eq_true z.1))
    have v1 : ¬ x.val > 100 := fun z => c1 (decide_eq_true z)
    refine ⟨_, rfl, rfl, _, rfl, ite2 (fun c2 => ?_) (fun c2 => ?_)⟩
    · have v2 : x.val = 100 := V.int.inj (of_decide_eq_true c2)
      obtain rfl : x = .hun := by
        cases x with
        | low n =>
          have v2' : n = 100 := v2
          rcases hx with hx | ⟨k, k2, k9, rfl⟩ <;> omega
        | hun => rfl
        | sc i =>
          have h1 : Bg.W (i + 1) = 100 := v2
          have := Bg.W_pos i
          rw [Bg.W_succ] at h1
          omega
      have e : Bg.fol b .hun = if 0 < b.g ∧ b.g < 10 then some ⟨b.t, b.g * 100, 100, b.m⟩ else none := rfl
      refine ⟨_, rfl, _, _, rfl, rfl, _, rfl, ite2 (fun d => ?_) (fun d => ?_)⟩
      · refine ⟨_, _, rfl, rfl, _, rfl, ite2 (fun d2 => ?_) (fun d2 => ?_)⟩
        · have g := got e ⟨of_decide_eq_true d, of_decide_eq_true d2⟩
          exact ⟨_, rfl, _, rfl, _, _, rfl, rfl, .inl ⟨by omega, by omega⟩, _, rfl, four g⟩
        · exact end_ e fun z => d2 (decide_eq_true z.2)
      · exact ⟨_, rfl, iteF (end_ e fun z => d (decide_eq_true z.1))⟩
    have v2 : x.val ≠ 100 := fun z => c2 (decide_eq_true (by rw [z]))
    obtain ⟨n, rfl⟩ : ∃ n, x = .low n := by
      cases x with
      | low n => exact ⟨n, rfl⟩
      | hun => exact absurd rfl v2
      | sc i =>
        have := Bg.W_pos i
        have h1 : ¬ Bg.W (i + 1) > 100 := v1
        rw [Bg.W_succ] at h1
        omega
    have n0 : n ≠ 0 := v0
    refine ⟨_, rfl, _, _, rfl, rfl, _, rfl, ite2 (fun c3 => ?_) (fun c3 => ?_)⟩
    · have n10 : n ≥ 10 := of_decide_eq_true c3
      have e : Bg.fol b (.low n) = if b.r = 100 then some ⟨b.t, b.g + n, if n ≥ 20 then 10 else 1, b.m⟩ else none := by
        unfold Bg.fol
        simp only
        rw [if_neg n0, if_pos n10]
      refine ⟨_, rfl, rfl, _, rfl, ite2 (fun d => ?_) (fun d => ?_)⟩
      · have g := got e (V.int.inj (of_decide_eq_true d))
        refine ⟨_, rfl, _, rfl, _, rfl, _, _, rfl, rfl, _, rfl, _, _, rfl, rfl, _, rfl, ?_⟩
        have f4 := four g
        refine ite2 (fun d2 => ?_) (fun d2 => ?_)
        · have z : n ≥ 20 := of_decide_eq_true d2
          simp only [if_pos z] at f4
          exact ⟨_, rfl, f4⟩
        · have z : ¬ n ≥ 20 := fun q => d2 (decide_eq_true q)
          simp only [if_neg z] at f4
          exact ⟨_, rfl, f4⟩
      · exact end_ e fun z => d (decide_eq_true (by rw [z]))
    · have n10 : ¬ n ≥ 10 := fun q => c3 (decide_eq_true q)
      have e : Bg.fol b (.low n) = if b.r ≥ 10 then some ⟨b.t, b.g + n, 1, b.m⟩ else none := by
        unfold Bg.fol
        simp only
        rw [if_neg n0, if_neg n10]
      refine ⟨_, rfl, _, _, rfl, rfl, _, rfl, ite2 (fun d => ?_) (fun d => ?_)⟩
      · have g := got e (of_decide_eq_true d)
        exact ⟨_, rfl, _, rfl, _, rfl, _, _, rfl, rfl, _, rfl, four g⟩
      · exact end_ e fun z => d (decide_eq_true z)
theorem stepsOf_snoc (b : Bg) (l : List (Str × Wo)) (x : Str × Wo) : stepsOf b (l ++ [x]) = stepsOf b l ++ (match Bg.fol b x.2 with | none => [] | some c => [(x.1, c)]) := by
  unfold stepsOf
  rw [List.filterMap_append]
  congr 1
  cases h : Bg.fol b x.2 with
  | none => simp [h]
  | some c => simp [h]
theorem scSteps : FnScope ["beginning", "words", "found", "word", "worth", "longer"] ["beginning", "words"] (defScope sSteps) := ⟨rfl, rfl, rfl, by decide +kernel, rfl, by decide +kernel, by decide +kernel⟩
theorem ok_steps {f fF : Addr} {fd dF : FuncData} (F : Fun K "steps" "steps" sSteps f fd) (DF : Def1 P w K mg base "followed" 2 fF dF ["beginning", "worth"] (spFol K)) : FnOk P w K mg base CX0 3 f fd ["beginning", "words"] (spSteps K) := by
  refine F.ok scSteps (fun vs H Q E h => ?_) (fun cdv A outer s H vs Q E hr h => ?_)
  · obtain ⟨p, b, l, vz, rfl, _⟩ := h
    rfl
  · obtain ⟨p, b, l, vz, rfl, hb, ok, hv, hl, hw, k⟩ := h
    refine ⟨_, pss_cons (ps_set (i := 2) scSteps.nd rfl (.inl rfl) (pe_lst pa_nil))
      (pss_cons (ps_for PassesOwn.never rfl (pi_list (pv 1)) (pg_tup (by rfl) (pgs_cons (pg_name (i := 3) scSteps.nd rfl (.inl rfl)) (pgs_cons (pg_name (i := 4) scSteps.nd rfl (.inl rfl)) pgs_nil)))
        (pss_cons (ps_set (i := 5) scSteps.nd rfl (.inl rfl) (pe_call DF.ok hr (by rfl) DF.g DF.k DF.b .nil pass0 (pa_cons (pv 0) (pa_cons (pv 4) pa_nil))))
        (pss_one (ps_if (pt_cmp (pc_notN (pv 5))) (pss_one (ps_expr (pe_bm PySem.F.plainAttrs_list PySem.F.slot_list_append PySem.F.type_list_append mt_append (pv 2) (pa_cons (pe_tup (pa_cons (pv 3) (pa_cons (pv 5) pa_nil))) pa_nil)))) pss_nil))))
      (pss_one (ps_ret (pv 2)))), ?_⟩
    refine ⟨Nat.zero_le _, fun q nq => ?_⟩
    have big : 1000 ≤ sizeLine := by decide
    refine ⟨_, rfl, l, rfl, ⟨_, SqL.of ((same_new nq) _ _ hv.1)⟩, for_list (K := K) (a := l) (xs := vz.map fun z => V.ref z.1)
      (fun i σ G => ∃ (x y z : Option V) (cs : List (Addr × Str × Addr × Bg)), σ = [some (.ref p), some (.ref l), some (.ref q), x, y, z] ∧ Same H G ∧ StAt K G q cs ∧ cs.map pairS = stepsOf b ((vz.take i).map (·.2))) ?_ ?_ ?_ ?_⟩
    · exact ⟨none, none, none, [], rfl, same_new nq, ⟨upd_same, fun c hc => nomatch hc⟩, rfl⟩
    · rintro i σ G _ ⟨_, _, _, _, _, s1, _⟩
      exact SqL.of (s1 _ _ hv.1)
    · rintro i y σ G hi ⟨x, y2, z, cs, rfl, s1, hst, ec⟩
      obtain ⟨e, he, rfl⟩ : ∃ e, vz[i]? = some e ∧ y = V.ref e.1 := by
        rw [List.getElem?_map] at hi
        cases h : vz[i]? with
        | none =>
          rw [h] at hi
          cases hi
        | some e =>
          rw [h] at hi
          exact ⟨e, rfl, (Option.some.inj hi).symm⟩
      have il := (List.getElem?_eq_some_iff.mp he).1
      have hm := List.mem_of_getElem? he
      have lc : cs.length ≤ i := by
        have h1 := congrArg List.length ec
        rw [List.length_map] at h1
        have h2 : (stepsOf b ((vz.take i).map (·.2))).length ≤ ((vz.take i).map (·.2)).length := List.length_filterMap_le ..
        rw [List.length_map, List.length_take] at h2
        omega
      refine ⟨e.1, _, rfl, SqT.of (s1 _ _ (hv.2 e hm)), rfl, _, _, rfl, _, _, rfl, rfl, ?_⟩
      have more : stepsOf b ((vz.take (i + 1)).map (·.2)) = stepsOf b ((vz.take i).map (·.2)) ++ (match Bg.fol b e.2.2 with | none => [] | some c => [(e.2.1, c)]) := by
        rw [List.take_add_one, he, List.map_append]
        exact stepsOf_snoc b _ e.2
      refine ⟨_, rfl, _, rfl, p, b, e.2.2, rfl, s1.tp hb, ok, hw e hm, fun no => ?_, fun c hc r G2 s2 hr2 => ?_⟩
      · refine ⟨_, rfl, _, rfl, ite2 (fun z => absurd z (by simp)) (fun _ => ?_)⟩
        refine ⟨_, _, _, cs, rfl, s1, hst, ?_⟩
        rw [more, no, List.append_nil]
        exact ec
      · refine ⟨_, rfl, _, rfl, ite2 (fun _ => ?_) (fun z => absurd (by simp) z)⟩
        have st2 := hst.same s2
        refine ⟨_, rfl, .inl ⟨rfl, _, SqL.of st2.1⟩, _, rfl, _, rfl, by show 2 ≤ sizeLine; decide, fun T nT => ?_⟩
        have s3 : Same G2 (upd G2 T (.tup [.str e.2.1, .ref r])) := same_new nT
        have st3 := st2.same s3
        refine ⟨q, _, _, rfl, rfl, st3.1, by rw [List.length_map]; omega, ?_⟩
        refine ⟨_, _, _, cs ++ [(T, e.2.1, r, c)], rfl, fun b' o' e' => ?_, ⟨?_, fun c' hc' => ?_⟩, ?_⟩
        · rw [upd_ne (ne_of_none e' nq)]
          exact s3 _ _ (s2 _ _ (s1 _ _ e'))
        · rw [upd_same, List.map_append]
          rfl
        · have ne : ∀ {d : Addr} {xs : List V}, upd G2 T (.tup [.str e.2.1, .ref r]) d = some (.tup xs) → d ≠ q := fun h z => by
            rw [z, st3.1] at h
            cases h
          rcases List.mem_append.mp hc' with h | h
          · obtain ⟨h1, h2⟩ := st3.2 c' h
            exact ⟨by rw [upd_ne (ne h1)]; exact h1, h2.grow st3.1⟩
          · rw [List.mem_singleton.mp h]
            refine ⟨?_, (s3.tp hr2).grow st3.1⟩
            rw [upd_ne (ne upd_same)]
            exact upd_same
        · rw [more, hc, List.map_append, ec]
          rfl
    · rintro σ G ⟨x, y, z, cs, rfl, s1, hst, ec⟩
      rw [List.length_map, List.take_length] at ec
      exact ⟨_, rfl, k q cs G nq s1 hst ec⟩
end
end LB
set_option Elab.async false
set_option linter.all false
set_option maxRecDepth 100000
set_option maxHeartbeats 4000000
/-! The words of a number, as a list of worths. -/
namespace Bg
/-- the group of three digits at place i -/
def gr (n : Int) (i : Nat) : Int := n / W i % 1000
theorem gr_bnd (n : Int) (i : Nat) : 0 ≤ gr n i ∧ gr n i ≤ 999 := by
  unfold gr
  have := Int.emod_nonneg (n / W i) (show (1000 : Int) ≠ 0 by decide)
  have := Int.emod_lt_of_pos (n / W i) (show (0 : Int) < 1000 by decide)
  omega
theorem div_succ (n : Int) (i : Nat) : n / W i / 1000 = n / W (i + 1) := by
  rw [W_succ, Int.mul_comm, Int.ediv_ediv_of_nonneg (Int.le_of_lt (W_pos i))]
def groupW (g : Int) : List Wo := (if g / 100 > 0 then [.low (g / 100), .hun] else []) ++ (if g % 100 ≥ 20 then .low (10 * (g % 100 / 10)) :: (if g % 100 % 10 > 0 then [.low (g % 100 % 10)] else []) else if g % 100 > 0 then [.low (g % 100)] else [])
/-- the words of the group at place i -/
def partW (n : Int) (i : Nat) : List Wo := if gr n i > 0 then groupW (gr n i) ++ (if i > 0 then [.sc (i - 1)] else []) else []
/-- the words of the k lowest groups, the highest first -/
def spW (n : Int) : Nat → List Wo
  | 0 => []
  | k + 1 => partW n k ++ spW n k
def nameW (n : Int) (k : Nat) : List Wo := if n = 0 then [.low 0] else spW n k
theorem div_zero {n : Int} {i j : Nat} (h0 : 0 ≤ n) (h : n < W i) (hj : i ≤ j) : n / W j = 0 := Int.ediv_eq_zero_of_lt h0 (Int.lt_of_lt_of_le h (W_le hj))
theorem spW_top {n : Int} {i : Nat} (h0 : 0 ≤ n) (h : n < W i) : ∀ k, spW n (i + k) = spW n i
  | 0 => rfl
  | k + 1 => by
    show partW n (i + k) ++ spW n (i + k) = spW n i
    rw [spW_top h0 h k]
    unfold partW gr
    rw [div_zero h0 h (Nat.le_add_right i k)]
    rfl
theorem spW_any {n : Int} {i k : Nat} (h0 : 0 ≤ n) (h : n < W i) (hk : i ≤ k) : spW n k = spW n i := by
  obtain ⟨d, rfl⟩ := Nat.exists_eq_add_of_le hk
  exact spW_top h0 h d
/-- what the program has put together behind j groups from the highest one -/
def accW (n : Int) (i : Nat) : Nat → List Wo
  | 0 => []
  | j + 1 => accW n i j ++ partW n (i - 1 - j)
theorem accW_spW (n : Int) (i : Nat) : ∀ j, j ≤ i → accW n i j ++ spW n (i - j) = spW n i
  | 0, _ => rfl
  | j + 1, h => by
    have e : i - j = (i - 1 - j) + 1 := by omega
    have ih := accW_spW n i j (by omega)
    rw [e] at ih
    show (accW n i j ++ partW n (i - 1 - j)) ++ spW n (i - (j + 1)) = _
    rw [show i - (j + 1) = i - 1 - j by omega, List.append_assoc]
    exact ih
theorem accW_all (n : Int) (i : Nat) : accW n i i = spW n i := by
  have h := accW_spW n i i (Nat.le_refl _)
  rw [Nat.sub_self] at h
  show accW n i i = _
  rw [← h]
  show _ = accW n i i ++ []
  rw [List.append_nil]
theorem groupW_len {g : Int} : (groupW g).length ≤ 4 := by
  unfold groupW
  rw [List.length_append]
  have a : (if g / 100 > 0 then [Wo.low (g / 100), Wo.hun] else []).length ≤ 2 := by split <;> simp
  have b : (if g % 100 ≥ 20 then Wo.low (10 * (g % 100 / 10)) :: (if g % 100 % 10 > 0 then [Wo.low (g % 100 % 10)] else []) else if g % 100 > 0 then [Wo.low (g % 100)] else []).length ≤ 2 := by
    repeat' split
    all_goals simp
  omega
theorem partW_len (n : Int) (i : Nat) : (partW n i).length ≤ 5 := by
  unfold partW
  split
  · rw [List.length_append]
    have := @groupW_len (gr n i)
    have b : (if i > 0 then [Wo.sc (i - 1)] else []).length ≤ 1 := by split <;> simp
    omega
  · simp
theorem accW_len (n : Int) (i : Nat) : ∀ j, (accW n i j).length ≤ 5 * j
  | 0 => Nat.le_refl _
  | j + 1 => by
    show (accW n i j ++ partW n (i - 1 - j)).length ≤ _
    rw [List.length_append]
    have := accW_len n i j
    have := partW_len n (i - 1 - j)
    omega
end Bg
set_option Elab.async false
set_option linter.all false
set_option maxRecDepth 100000
set_option maxHeartbeats 4000000
/-! The program's own: the words of a number. -/
namespace LB
open PySem L2 Wk
open Bg (Bg Wo)
def wd (ones tens : List Str) (hun : Str) (scales : List Str) : Wo → Str
  | .low n => if n < 20 then (ones[n.toNat]?).getD hun else (tens[(n / 10 - 2).toNat]?).getD hun
  | .hun => hun
  | .sc i => (scales[i]?).getD hun
theorem wd_one {ones tens : List Str} {hun : Str} {scales : List Str} {n : Int} (l : ones.length = 20) (h0 : 0 ≤ n) (h1 : n < 20) : atI (ones.map V.str) n = some (.str (wd ones tens hun scales (.low n))) := by
  obtain ⟨k, rfl⟩ : ∃ k : Nat, n = (k : Int) := ⟨n.toNat, by omega⟩
  have hk : k < ones.length := by omega
  refine atI_nat ?_
  unfold wd
  simp only
  rw [if_pos h1, Int.toNat_natCast, List.getElem?_map, List.getElem?_eq_getElem hk]
  rfl
theorem wd_ten {ones tens : List Str} {hun : Str} {scales : List Str} {k : Int} (l : tens.length = 8) (h0 : 2 ≤ k) (h1 : k ≤ 9) : atI (tens.map V.str) (k - 2) = some (.str (wd ones tens hun scales (.low (10 * k)))) := by
  obtain ⟨j, hj⟩ : ∃ j : Nat, k - 2 = (j : Int) := ⟨(k - 2).toNat, by omega⟩
  have hk : j < tens.length := by omega
  rw [hj]
  refine atI_nat ?_
  unfold wd
  simp only
  rw [if_neg (by omega), show 10 * k / 10 - 2 = (j : Int) by omega, Int.toNat_natCast, List.getElem?_map, List.getElem?_eq_getElem hk]
  rfl
theorem wd_sc {ones tens : List Str} {hun : Str} {scales : List Str} {i : Nat} (h : i < scales.length) : atI (scales.map V.str) (i : Int) = some (.str (wd ones tens hun scales (.sc i))) := by
  refine atI_nat ?_
  unfold wd
  simp only
  rw [List.getElem?_map, List.getElem?_eq_getElem h]
  rfl
def spGroups : Sp := fun vs H Q _ => ∃ (n : Int) (k : Nat), vs = [.int n] ∧ 0 ≤ n ∧ n < Bg.W k ∧ k ≤ 100 ∧
  ∀ (p : Addr) (i : Nat) (H' : Hp), H p = none → Same H H' → i ≤ k → n < Bg.W i → (0 < i → Bg.W (i - 1) ≤ n) → H' p = some (.lst ((List.range i).map fun j => V.int (Bg.gr n j))) → Q (.ref p) H'
def spGW : Sp := fun vs H Q _ => ∃ (t o te sc : Addr) (ones tens : List Str) (hun : Str) (scales : List Str) (g : Int), vs = [.ref t, .int g] ∧ TabAt H t ones tens hun scales o te sc ∧ ones.length = 20 ∧ tens.length = 8 ∧ 0 ≤ g ∧ g ≤ 999 ∧
  ∀ p H', H p = none → Same H H' → H' p = some (.lst (((Bg.groupW g).map (wd ones tens hun scales)).map V.str)) → Q (.ref p) H'
def spSpelled : Sp := fun vs H Q _ => ∃ (t o te sc : Addr) (ones tens : List Str) (hun : Str) (scales : List Str) (n : Int), vs = [.ref t, .int n] ∧ TabAt H t ones tens hun scales o te sc ∧ ones.length = 20 ∧ tens.length = 8 ∧ scales.length ≤ 90 ∧
  0 ≤ n ∧ n < Bg.W (scales.length + 1) ∧ ∀ p H', H p = none → Same H H' → H' p = some (.lst (((Bg.nameW n (scales.length + 1)).map (wd ones tens hun scales)).map V.str)) → Q (.ref p) H'
section
variable {P : Program} {w : World} {K : PySem.W.Frag} {mg : Str → Option Value} {base : Heap}
end
end LB
set_option Elab.async false
set_option linter.all false
set_option maxRecDepth 100000
set_option maxHeartbeats 4000000
/-! The program's own: the place of a number, the number at a place. -/
namespace LB
open PySem L2 Wk
open Bg (Bg Wo)
def cfS (F : Int → Int) (e : Str × Bg) : Int := Bg.cf F e.2
/-- the step to the word x: the beginning behind it, or the same one if no step has it -/
def nxt (st : List (Str × Bg)) (b : Bg) (x : Str) : Bg := match st.find? fun e => decide (e.1 = x) with
  | some e => e.2
  | none => b
/-- the place that the program counts -/
def plc (F : Int → Int) (ws : List (Str × Wo)) : Bg → List Str → Int → Int
  | _, [], acc => acc
  | b, x :: xs, acc => plc F ws (nxt (stepsOf b ws) b x) xs (acc + Bg.own F b + Bg.sumL (cfS F) ((stepsOf b ws).takeWhile fun e => decide (e.1 ≠ x)))
/-- the program finds r at the place left behind b -/
inductive NumAt (F : Int → Int) (ws : List (Str × Wo)) : Bg → Int → Int → Prop
  | own {b : Bg} : Bg.own F b = 1 → NumAt F ws b 0 (b.t + b.g)
  | step {b c : Bg} {x : Str} {left r : Int} {pre post : List (Str × Bg)} : stepsOf b ws = pre ++ (x, c) :: post → 0 ≤ left - Bg.own F b - Bg.sumL (cfS F) pre → left - Bg.own F b - Bg.sumL (cfS F) pre < Bg.cf F c →
      NumAt F ws c (left - Bg.own F b - Bg.sumL (cfS F) pre) r → NumAt F ws b left r
theorem steps_sum (F : Int → Int) (b : Bg) : ∀ ws : List (Str × Wo), Bg.sumL (cfS F) (stepsOf b ws) = Bg.sumL (fun e => Bg.cfo F b e.2) ws
  | [] => rfl
  | e :: ws => by
    have ih := steps_sum F b ws
    unfold stepsOf at ih ⊢
    show Bg.sumL (cfS F) (List.filterMap _ (e :: ws)) = Bg.cfo F b e.2 + Bg.sumL (fun e => Bg.cfo F b e.2) ws
    rw [List.filterMap_cons]
    cases h : Bg.fol b e.2 with
    | none =>
      simp only [Option.map_none]
      rw [ih]
      unfold Bg.cfo
      rw [h]
      simp
    | some c =>
      simp only [Option.map_some]
      show cfS F (e.1, c) + _ = _
      rw [ih]
      congr 1
      unfold Bg.cfo
      rw [h]
      rfl
theorem steps_count {F : Int → Int} {b : Bg} {ws : List (Str × Wo)} {k : Nat} (ok : Bg.Ok b) (hm : b.m ≤ k + 1) (hw : (ws.map (·.2)).Perm (Bg.all k)) : Bg.cf F b = Bg.own F b + Bg.sumL (cfS F) (stepsOf b ws) := by
  rw [steps_sum, Bg.count ok hm, ← Bg.sumL_perm _ hw, Bg.sumL_map]
theorem steps_mem {b : Bg} {ws : List (Str × Wo)} {e : Str × Bg} (h : e ∈ stepsOf b ws) : ∃ x, (e.1, x) ∈ ws ∧ Bg.fol b x = some e.2 := by
  obtain ⟨y, hy, he⟩ := List.mem_filterMap.mp h
  cases q : Bg.fol b y.2 with
  | none =>
    rw [q] at he
    cases he
  | some c =>
    rw [q] at he
    cases he
    exact ⟨y.2, hy, q⟩
theorem take_while_next {α : Type} {p : α → Bool} {l : List α} {i : Nat} {x : α} (h : l[i]? = some x) (hb : ∀ y ∈ l.take i, p y = true) (hx : p x = false) : l.takeWhile p = l.take i := by
  obtain ⟨hi, e⟩ := List.getElem?_eq_some_iff.mp h
  have z := List.take_append_drop i l
  rw [List.drop_eq_getElem_cons hi, e] at z
  conv => lhs; rw [← z]
  rw [List.takeWhile_append_of_pos hb, List.takeWhile_cons_of_neg (by simp [hx]), List.append_nil]
theorem take_while_all {α : Type} {p : α → Bool} {l : List α} (hb : ∀ y ∈ l, p y = true) : l.takeWhile p = l := by
  have := List.takeWhile_append_of_pos (l₂ := []) hb
  simpa using this
theorem find_next {α : Type} {p : α → Bool} {l : List α} {i : Nat} {x : α} (h : l[i]? = some x) (hb : ∀ y ∈ l.take i, p y = false) (hx : p x = true) : l.find? p = some x := by
  obtain ⟨hi, e⟩ := List.getElem?_eq_some_iff.mp h
  have z := List.take_append_drop i l
  rw [List.drop_eq_getElem_cons hi, e] at z
  rw [← z, List.find?_append, List.find?_eq_none.mpr (fun y hy => by simp [hb y hy]), List.find?_cons_of_pos hx]
  rfl
/-- the table, valid, with its words -/
structure Tbl (H : Hp) (t : Addr) (ones tens : List Str) (hun : Str) (scales : List Str) (o te sc : Addr) : Prop where
  at_ : TabAt H t ones tens hun scales o te sc
  l1 : ones.length = 20
  l2 : tens.length = 8
  l3 : scales.length ≤ 90
  nd : (ones ++ (tens ++ hun :: scales)).Nodup
theorem Tbl.same {H H' : Hp} {t : Addr} {ones tens : List Str} {hun : Str} {scales : List Str} {o te sc : Addr} (T : Tbl H t ones tens hun scales o te sc) (s : Same H H') : Tbl H' t ones tens hun scales o te sc :=
  ⟨⟨s _ _ T.at_.tup, s _ _ T.at_.lo, s _ _ T.at_.lt, s _ _ T.at_.ls⟩, T.l1, T.l2, T.l3, T.nd⟩
def spPlaceW : Sp := fun vs H Q _ => ∃ (t o te sc : Addr) (ones tens : List Str) (hun : Str) (scales : List Str) (n lo hi : Int), vs = [.ref t, .int n, .int lo, .int hi] ∧ Tbl H t ones tens hun scales o te sc ∧
  0 ≤ n ∧ n < Bg.W (scales.length + 1) ∧ lo ≤ hi ∧ ∀ ws H', Same H H' → ws.Perm (voc ones tens hun scales) → ascW ws →
    Q (.int (plc (Bg.fb lo hi) ws (Bg.start scales.length) ((Bg.nameW n (scales.length + 1)).map (wd ones tens hun scales)) 0)) H'
def spNumW : Sp := fun vs H Q _ => ∃ (t o te sc : Addr) (ones tens : List Str) (hun : Str) (scales : List Str) (n lo hi : Int), vs = [.ref t, .int n, .int lo, .int hi] ∧ Tbl H t ones tens hun scales o te sc ∧
  0 ≤ lo ∧ lo ≤ hi ∧ hi < Bg.W (scales.length + 1) ∧ 0 ≤ n ∧ n ≤ hi - lo ∧ ∀ ws r H', Same H H' → ws.Perm (voc ones tens hun scales) → ascW ws → NumAt (Bg.fb lo hi) ws (Bg.start scales.length) n r → Q (.int r) H'
section
variable {P : Program} {w : World} {K : PySem.W.Frag} {mg : Str → Option Value} {base : Heap}
theorem cs_get {cs : List (Addr × Str × Addr × Bg)} {i : Nat} {y : V} (h : (cs.map fun c => V.ref c.1)[i]? = some y) : ∃ c, cs[i]? = some c ∧ y = .ref c.1 := by
  rw [List.getElem?_map] at h
  cases q : cs[i]? with
  | none =>
    rw [q] at h
    cases h
  | some c =>
    rw [q] at h
    exact ⟨c, rfl, (Option.some.inj h).symm⟩
end
end LB
set_option Elab.async false
set_option linter.all false
set_option maxRecDepth 100000
set_option maxHeartbeats 4000000
/-! `*x, y = xs`, a list: a starred target at the front. -/
namespace Wk
open PySem PySem.Spec PyProof.Rows L2 PySem.W
section
variable {prog : Program} {w : World} {A : Around} {E : Value → Shared → Prop} {s : Shared}
theorem unpack_star0 {l : Addr} {items : Array Value} {n : Nat} {Q : List Value → Shared → Prop} (hl : s.heap.IsList l items) (hh : A.handled = none) (h1 : 1 ≤ n) (hn : n ≤ items.size + 1) (hz : items.size ≤ sizeLine)
    (hQ : ∀ (h' : Heap) (tk : Nat), (∀ b o, s.heap.get? b = some o → h'.get? b = some o) →
      Q (.ref h'.objs.size :: items.toList.drop (items.size + 1 - n)) { s with heap := h'.push { cls := .type "list", data := .seq (items.toList.take (items.size + 1 - n)).toArray }, toks := tk }) :
    wpAny (model prog w) A (unpackItems (.ref l) n (some 0)) Q E s := by
  have hlt : l ≠ s.heap.objs.size := by obtain ⟨o, ho, _⟩ := hl; exact Nat.ne_of_lt (Heap.lt_size ho)
  have hll : l < s.heap.objs.size := by obtain ⟨o, ho, _⟩ := hl; exact Heap.lt_size ho
  unfold unpackItems
  refine wpAny_bind ?_
  unfold notIterableAtAll
  refine wpAny_bind (wpAny_specialOf hl.typeIs slot_list_iter.lookup ?_)
  refine wpAny_pure ?_
  simp only [Bool.false_eq_true, if_false]
  refine wpAny_bind (wpAny_holding (wpAny_pyIter_list hl ?_))
  refine wpAny_bind (wpAny_holding (wpAny_pure ?_))
  rw [if_neg (by simp)]
  have hit : (s.heap.push { cls := .type "list_iterator", data := .fields #[.ref l, .int 0 0] }).IsListIter s.heap.objs.size l 0 := ⟨_, Heap.get?_push_size _ rfl, rfl, rfl⟩
  refine wpAny_bind (wpAny_holding (kun_collect (T := "list_iterator") (.inr (.inr (.inl rfl))) (Walks.list (A := A.in1) hh s.heap.objs.size l hlt items) (fun j u st => st.1.typeIs) (k := 0) (by omega) ⟨hit, hl.push _⟩ (Heap.lt_size (Heap.get?_push_size _ rfl)) (by obtain ⟨_, e, _⟩ := hl.push (o := { cls := .type "list_iterator", data := .fields #[.ref l, .int 0 0] }); exact Heap.lt_size e) (fun h' tk hk => ?_) hz))
  rw [List.drop_zero]
  have len : items.toList.length = items.size := by simp
  have hmid : items.toList.length - (n - 1 - 0) = items.size + 1 - n := by rw [len]; omega
  show wpAny _ _ (if items.toList.length < n - 1 - 0 then _ else _) _ _ _
  rw [if_neg (by rw [len]; omega)]
  show wpAny _ _ (newList (items.toList.take (items.toList.length - (n - 1 - 0))) >>= fun d => pure ([] ++ [d] ++ items.toList.drop (items.toList.length - (n - 1 - 0)))) _ _ _
  rw [hmid]
  refine wpAny_bind (wpAny_newList (wpAny_pure (hQ h' tk fun b o e => hk b o (Nat.ne_of_lt (Heap.lt_size e)) (Heap.get?_push_of_some _ e))) (by rw [List.length_take, len]; omega))
end
end Wk
set_option Elab.async false
set_option linter.all false
set_option maxRecDepth 100000
set_option maxHeartbeats 4000000
/-! `*x, y = xs`: the rule over the hand layer. -/
namespace Wk
open PySem PySem.Spec PyProof.Rows L2 PySem.W
theorem vals_split : ∀ {xs ys : List V} {us : List Value}, Vals (xs ++ ys) us → ∃ u1 u2, us = u1 ++ u2 ∧ Vals xs u1 ∧ Vals ys u2
  | [], _, us, r => ⟨[], us, rfl, .nil, r⟩
  | _ :: _, _, _, .cons r rs => by
    obtain ⟨u1, u2, e, r1, r2⟩ := vals_split rs
    exact ⟨_ :: u1, u2, by rw [e]; rfl, .cons r r1, r2⟩
/-- all but the last one go into a new list -/
def gStar2 (K : PySem.W.Frag) (g1 g2 : TG) : TG := fun v σ H Q => ∃ (l : Addr) (xs : List V) (y : V), v = .ref l ∧ SqL K H l (xs ++ [y]) ∧ ∀ d, H d = none → g1 (.ref d) σ (upd H d (.lst xs)) fun σ1 H1 => g2 y σ1 H1 Q
theorem pg_star2 {X : Cx} {a b : Expr} {kt : Nat} {p1 pos : Pos} {g1 g2 : TG} (hc : X.calm = true) (h1 : PG X a g1) (h2 : PG X b g2)
    (hn : (assignEach [.Starred a p1, b] X.env).length = 2 := by rfl) (hst : (assignEach [.Starred a p1, b] X.env).findIdx? (·.1) = some 0 := by rfl)
    (ha : (assignEach [.Starred a p1, b] X.env).map (·.2) = [assign a X.env, assign b X.env] := by rfl) : PG X (.Tuple [.Starred a p1, b] kt pos) (gStar2 X.K g1 g2) := by
  refine ⟨fun pins s σ H v u Q I r hw => ?_⟩
  obtain ⟨l, xs, y, rfl, hl, k⟩ := hw
  cases r
  obtain ⟨its, rv, pl, hz⟩ := I.list hl
  have hlen := rv.length
  rw [List.length_append] at hlen
  have h1l : [y].length = 1 := rfl
  rw [List.length_append] at hz
  have e0 : its.toArray.size + 1 - 2 = xs.length := by rw [List.size_toArray]; omega
  rw [assign_Tuple]
  refine wpAny_bind (wpAny_standAt ?_)
  unfold unpack
  rw [hn, hst]
  refine wpAny_bind (wpAny_holding (unpack_star0 pl.isList (I.ok.hd hc) (by decide) (by rw [List.size_toArray]; omega) (by rw [List.size_toArray]; omega) fun h' tk hk => ?_))
  rw [e0]
  obtain ⟨us, w0, e, r1, r2⟩ : ∃ us w0, its = us ++ [w0] ∧ Vals xs us ∧ RelV y w0 := by
    obtain ⟨us, ws, e, r1, r2⟩ := vals_split rv
    cases r2 with
    | cons r3 r4 =>
      cases r4
      exact ⟨us, _, e, r1, r3⟩
  have ul := r1.length
  rw [e, List.toList_toArray, ul, List.drop_left, List.take_left, ha]
  have I1 : L2.Inv X pins σ H { s with heap := h', toks := tk } := I.kept (t' := tk) hk
  have hd := I1.hok.fresh (Nat.le_refl h'.objs.size)
  have I2 : L2.Inv X pins σ (upd H h'.objs.size (.lst xs)) { s with heap := h'.push { cls := .type "list", data := .seq us.toArray }, toks := tk } :=
    I1.laid (t' := tk) (o := .lst xs) (fun b ob q => Heap.get?_push_of_some _ q) (Nat.le_refl _) ⟨by omega, us, 0, r1, Heap.get?_push_size _ rfl⟩
  refine assignInOrder_cons (thn (h1.run pins _ σ _ (.ref h'.objs.size) _ _ I2 rfl (k _ hd)) fun _ s1 ⟨σ1, H1, J1, q1⟩ => ?_)
  refine assignInOrder_cons (thn (h2.run pins s1 σ1 H1 y w0 _ J1 r2 q1) fun _ s2 ⟨σ2, H2, J2, q2⟩ => ?_)
  exact assignInOrder_nil ⟨σ2, H2, J2, q2⟩
end Wk
set_option Elab.async false
set_option linter.all false
set_option maxRecDepth 100000
set_option maxHeartbeats 4000000
/-! The program's own: how names go on, with errors. -/
namespace LB
open PySem L2 Wk
open Bg (Bg Wo)
/-- the worth of a word -/
def mean (vc : List (Str × Wo)) (x : Str) : Option Wo := (vc.find? fun e => decide (e.1 = x)).map (·.2)
def nextB (vc : List (Str × Wo)) (b : Bg) (x : Str) : Option Bg := (mean vc x).bind (Bg.fol b)
/-- where a row of words leads: a beginning, or the first index at which no name goes on -/
def goF (vc : List (Str × Wo)) : Bg → List Str → Nat → Sum Bg Nat
  | b, [], _ => .inl b
  | b, x :: xs, i => match nextB vc b x with
    | none => .inr i
    | some c => goF vc c xs (i + 1)
theorem val_mean (x : Str) : ∀ l : List (Str × Wo), valV (l.map entW) (Sum.inr x : Key) = (mean l x).map fun w => V.int w.val
  | [] => rfl
  | e :: l => by
    have ih := val_mean x l
    unfold valV mean at ih ⊢
    rw [List.map_cons, List.find?_cons, List.find?_cons]
    by_cases h : e.1 = x
    · rw [decide_eq_true h, decide_eq_true (show (entW e).1 = (Sum.inr x : Key) from congrArg Sum.inr h)]
      rfl
    · rw [decide_eq_false h, decide_eq_false (show ¬ (entW e).1 = (Sum.inr x : Key) from fun z => h (Sum.inr.inj z))]
      exact ih
theorem mean_mem {vc : List (Str × Wo)} {x : Str} {o : Wo} (h : mean vc x = some o) : (x, o) ∈ vc := by
  unfold mean at h
  cases e : vc.find? fun e => decide (e.1 = x) with
  | none =>
    rw [e] at h
    cases h
  | some y =>
    rw [e] at h
    cases h
    have h1 := List.mem_of_find?_eq_some e
    have h2 : y.1 = x := of_decide_eq_true (List.find?_some (p := fun e : Str × Wo => decide (e.1 = x)) e)
    rw [← h2]
    exact h1
theorem mem_mean {x : Str} {o : Wo} : ∀ {vc : List (Str × Wo)}, (vc.map (·.1)).Nodup → (x, o) ∈ vc → mean vc x = some o
  | e :: l, nd, h => by
    rw [List.map_cons, List.nodup_cons] at nd
    unfold mean
    rw [List.find?_cons]
    rcases List.mem_cons.mp h with rfl | h
    · rw [decide_eq_true rfl]
      rfl
    · have ne : e.1 ≠ x := fun z => nd.1 (List.mem_map.mpr ⟨(x, o), h, z.symm⟩)
      rw [decide_eq_false ne]
      exact mem_mean nd.2 h
theorem next_ok {vc : List (Str × Wo)} {b c : Bg} {x : Str} (hw : ∀ e ∈ vc, Bg.WOk e.2) (ok : Bg.Ok b) (h : nextB vc b x = some c) : Bg.Ok c ∧ c.m ≤ b.m := by
  unfold nextB at h
  cases e : mean vc x with
  | none =>
    rw [e] at h
    cases h
  | some o =>
    rw [e] at h
    have h : Bg.fol b o = some c := h
    exact ⟨Bg.fol_ok ok (hw _ (mean_mem e)) h, Bg.fol_m h⟩
/-- a word is among those that follow exactly if a name goes on with it -/
theorem steps_next {vc ws : List (Str × Wo)} {b : Bg} (nd : (vc.map (·.1)).Nodup) (p : ws.Perm vc) (x : Str) : x ∈ (stepsOf b ws).map (·.1) ↔ (nextB vc b x).isSome = true := by
  constructor
  · intro h
    obtain ⟨e, he, rfl⟩ := List.mem_map.mp h
    obtain ⟨o, ho, hf⟩ := steps_mem he
    unfold nextB
    rw [mem_mean nd (p.mem_iff.mp ho)]
    show (Bg.fol b o).isSome = true
    rw [hf]
    rfl
  · intro h
    unfold nextB at h
    cases e : mean vc x with
    | none =>
      rw [e] at h
      cases h
    | some o =>
      rw [e] at h
      have h : (Bg.fol b o).isSome = true := h
      obtain ⟨c, hc⟩ := Option.isSome_iff_exists.mp h
      refine List.mem_map.mpr ⟨(x, c), ?_, rfl⟩
      exact List.mem_filterMap.mpr ⟨(x, o), p.mem_iff.mpr (mean_mem e), by rw [hc]; rfl⟩
theorem voc_nd {ones tens : List Str} {hun : Str} {scales : List Str} (nd : (ones ++ (tens ++ hun :: scales)).Nodup) : ((voc ones tens hun scales).map (·.1)).Nodup := by
  rw [voc_fst]
  refine (List.Perm.nodup_iff ?_).mp nd
  have a : (tens ++ hun :: scales).Perm (hun :: (tens ++ scales)) := List.perm_middle
  exact (List.Perm.append_left ones a).trans List.perm_middle
theorem voc_ok {ones tens : List Str} {hun : Str} {scales : List Str} (l1 : ones.length = 20) (l2 : tens.length = 8) : ∀ e ∈ voc ones tens hun scales, Bg.WOk e.2 := fun e he => by
  have h2 : e.2 ∈ (voc ones tens hun scales).map (·.2) := List.mem_map.mpr ⟨_, he, rfl⟩
  rw [voc_snd l1 l2] at h2
  exact Bg.all_ok h2
/-- any table: of bounded lengths -/
structure TabX (H : Hp) (t : Addr) (ones tens : List Str) (hun : Str) (scales : List Str) (o te sc : Addr) : Prop where
  at_ : TabAt H t ones tens hun scales o te sc
  l1 : ones.length ≤ 100
  l2 : tens.length ≤ 100
  l3 : scales.length ≤ 90
  tm : ∀ x ∈ ones ++ (tens ++ hun :: scales), x.length ≤ 2000
theorem TabAt.same {H H' : Hp} {t : Addr} {ones tens : List Str} {hun : Str} {scales : List Str} {o te sc : Addr} (T : TabAt H t ones tens hun scales o te sc) (s : Same H H') : TabAt H' t ones tens hun scales o te sc := ⟨s _ _ T.tup, s _ _ T.lo, s _ _ T.lt, s _ _ T.ls⟩
theorem TabX.same {H H' : Hp} {t : Addr} {ones tens : List Str} {hun : Str} {scales : List Str} {o te sc : Addr} (T : TabX H t ones tens hun scales o te sc) (s : Same H H') : TabX H' t ones tens hun scales o te sc := ⟨T.at_.same s, T.l1, T.l2, T.l3, T.tm⟩
/-- the words of a row, by the table's meanings -/
def spFolBy (K : PySem.W.Frag) : Sp := fun vs H Q _ => ∃ (p d : Addr) (b : Bg) (x : Str) (vc : List (Str × Wo)), vs = [.ref p, .str x, .ref d] ∧ SqT K H p (BgV b) ∧ Bg.Ok b ∧ H d = some (.dK (vc.map entW)) ∧ (∀ e ∈ vc, Bg.WOk e.2) ∧
  (nextB vc b x = none → ∀ H', Same H H' → Q .non H') ∧ ∀ c, nextB vc b x = some c → ∀ q H', Same H H' → SqT K H' q (BgV c) → Q (.ref q) H'
def dueRd (flt : Option V) (vc : List (Str × Wo)) (b : Bg) (ws : List Str) : Option (Nat × V) := match flt with
  | some v => some (0, v)
  | none => match goF vc b ws 0 with
    | .inr i => some (2, .int (i : Int))
    | .inl _ => none
def Err2 (Cs : List Addr) (H : Hp) (E : XK) (due : Option (Nat × V)) : Prop := ∀ i v, due = some (i, v) → ∀ C, Cs[i]? = some C → ∀ d H', H d = none → Same H H' → H' d = some (.xd [("value", v)]) → E (.ref C) (some d) H'
theorem Err2.same {Cs : List Addr} {H G : Hp} {E : XK} {a : Option (Nat × V)} (h : Err2 Cs H E a) (s : Same H G) : Err2 Cs G E a := fun i v e C hC d H' n s' m => h i v e C hC d H' (s.free n) (s.trans s') m
def spRead (K : PySem.W.Frag) (Cs : List Addr) : Sp := fun vs H Q E => ∃ (t l o te sc : Addr) (ones tens : List Str) (hun : Str) (scales ws : List Str), vs = [.ref t, .ref l] ∧ TabX H t ones tens hun scales o te sc ∧ H l = some (.lst (ws.map V.str)) ∧
  (fault ones tens hun scales = none → ∀ b, goF (voc ones tens hun scales) (Bg.start scales.length) ws 0 = .inl b → ∀ q H', Same H H' → SqT K H' q (BgV b) → Bg.Ok b → b.m ≤ scales.length + 1 → Q (.ref q) H') ∧
  Err2 Cs H E (dueRd (fault ones tens hun scales) (voc ones tens hun scales) (Bg.start scales.length) ws)
def spFlw (K : PySem.W.Frag) (Cs : List Addr) : Sp := fun vs H Q E => ∃ (t l o te sc : Addr) (ones tens : List Str) (hun : Str) (scales ws : List Str), vs = [.ref t, .ref l] ∧ TabX H t ones tens hun scales o te sc ∧ H l = some (.lst (ws.map V.str)) ∧ ws.length ≤ 1000 ∧
  (fault ones tens hun scales = none → ∀ b, goF (voc ones tens hun scales) (Bg.start scales.length) ws 0 = .inl b → ∀ (T L : Addr) (us : List Str) (y : V) (H' : Hp), Same H H' → H' T = some (.tup [.ref L, y]) → H' L = some (.lst (us.map V.str)) → us.length ≤ 1000 →
    (∀ x, x ∈ us ↔ (nextB (voc ones tens hun scales) b x).isSome = true) → Q (.ref T) H') ∧
  Err2 Cs H E (dueRd (fault ones tens hun scales) (voc ones tens hun scales) (Bg.start scales.length) ws)
def spCnN (Cs : List Addr) : Sp := fun vs H Q E => ∃ (t l o te sc : Addr) (ones tens : List Str) (hun : Str) (scales ws : List Str), vs = [.ref t, .ref l] ∧ TabX H t ones tens hun scales o te sc ∧ H l = some (.lst (ws.map V.str)) ∧
  (fault ones tens hun scales = none → ∀ b, goF (voc ones tens hun scales) (Bg.start scales.length) ws 0 = .inl b → ∀ (v : V) (H' : Hp), Same H H' → Q v H') ∧
  Err2 Cs H E (dueRd (fault ones tens hun scales) (voc ones tens hun scales) (Bg.start scales.length) ws)
def spCnP (C0 : Addr) : Sp := fun vs H Q E => ∃ (t o te sc : Addr) (ones tens : List Str) (hun : Str) (scales : List Str) (z : Str), vs = [.ref t, .str z] ∧ TabX H t ones tens hun scales o te sc ∧ z.length ≤ 100000 ∧
  (fault ones tens hun scales = none → ∀ (v : V) (H' : Hp), Same H H' → Q v H') ∧ (∀ v, fault ones tens hun scales = some v → ∀ d H', H d = none → Same H H' → H' d = some (.xd [("value", v)]) → E (.ref C0) (some d) H')
section
variable {P : Program} {w : World} {K : PySem.W.Frag} {mg : Str → Option Value} {base : Heap} {C0 C1 C2 C3 C4 C5 : Addr}
theorem scFolBy : FnScope ["beginning", "word", "meanings"] ["beginning", "word", "meanings"] (defScope sFollowedBy) := ⟨rfl, rfl, rfl, by decide +kernel, rfl, by decide +kernel, by decide +kernel⟩
theorem ok_folBy {f fF : Addr} {fd dF : FuncData} (F : Fun K "_followed_by" "_followed_by" sFollowedBy f fd) (DF : Def1 P w K mg base "followed" 2 fF dF ["beginning", "worth"] (spFol K)) : FnOk P w K mg base CX0 3 f fd ["beginning", "word", "meanings"] (spFolBy K) := by
  refine F.ok scFolBy (fun vs H Q E h => ?_) (fun cdv A outer s H vs Q E hr h => ?_)
  · obtain ⟨p, d, b, x, vc, rfl, _⟩ := h
    rfl
  · obtain ⟨p, d, b, x, vc, rfl, hb, ok, hd, hw, kN, kS⟩ := h
    have hu := hu_of hr
    refine ⟨_, pss_one (ps_ret (pe_ifExp (pt_cmp (pc_din hu (pv 1) (pv 2))) (pe_call DF.ok hr (by rfl) DF.g DF.k DF.b .nil pass0 (pa_cons (pv 0) (pa_cons (pe_dget hu (pv 2) (pv 1) (fun _ _ => rfl)) pa_nil))) pe_non)), ?_⟩
    have dg := DGet.k (k := (Sum.inr x : Key)) hd
    rw [val_mean] at dg
    refine ⟨_, rfl, _, rfl, d, _, rfl, dg, _, rfl, ?_⟩
    unfold nextB at kN kS
    cases e : mean vc x with
    | none =>
      rw [e] at kN
      exact iteF (kN rfl H fun _ _ z => z)
    | some y =>
      rw [e] at kN kS dg
      refine iteT ⟨_, rfl, _, rfl, _, rfl, d, _, rfl, dg, p, b, y, rfl, hb, ok, hw _ (mean_mem e), fun h => kN h H fun _ _ z => z, fun c hc q H' s m => kS c hc q H' s m⟩
end
end LB
set_option Elab.async false
set_option linter.all false
set_option maxRecDepth 100000
set_option maxHeartbeats 4000000
/-! Names as paths of beginnings. -/
namespace Bg
def folL : Bg → List Wo → Option Bg
  | b, [] => some b
  | b, x :: xs => (fol b x).bind fun c => folL c xs
theorem folL_app : ∀ (a : List Wo) (b : Bg) (c : List Wo), folL b (a ++ c) = (folL b a).bind fun d => folL d c
  | [], _, _ => rfl
  | x :: a, b, c => by
    show (fol b x).bind (fun d => folL d (a ++ c)) = ((fol b x).bind fun d => folL d a).bind fun d => folL d c
    cases fol b x with
    | none => rfl
    | some d => exact folL_app a d c
theorem folL_one {b c : Bg} {x : Wo} (h : fol b x = some c) (xs : List Wo) : folL b (x :: xs) = folL c xs := by
  show (fol b x).bind (fun d => folL d xs) = _
  rw [h]
  rfl
theorem fol_dig {t g r : Int} {m : Nat} {n : Int} (h1 : 0 < n) (h2 : n < 10) (hr : r ≥ 10) : fol ⟨t, g, r, m⟩ (.low n) = some ⟨t, g + n, 1, m⟩ := by
  unfold fol
  simp only
  rw [if_neg (by omega), if_neg (by omega), if_pos hr]
theorem fol_ten {t g : Int} {m : Nat} {n : Int} (h1 : 10 ≤ n) : fol ⟨t, g, 100, m⟩ (.low n) = some ⟨t, g + n, if n ≥ 20 then 10 else 1, m⟩ := by
  unfold fol
  simp only
  rw [if_neg (by omega), if_pos h1, if_pos trivial]
theorem fol_hun {t g r : Int} {m : Nat} (h1 : 0 < g) (h2 : g < 10) : fol ⟨t, g, r, m⟩ .hun = some ⟨t, g * 100, 100, m⟩ := by
  unfold fol
  simp only
  rw [if_pos ⟨h1, h2⟩]
theorem fol_sc {t g r : Int} {m i : Nat} (h1 : 0 < g) (h2 : i + 1 < m) : fol ⟨t, g, r, m⟩ (.sc i) = some ⟨t + g * W (i + 1), 0, 100, i + 1⟩ := by
  unfold fol
  simp only
  rw [if_pos ⟨h1, h2⟩]
theorem group_path {t g : Int} {m : Nat} (h1 : 1 ≤ g) (h2 : g ≤ 999) : ∃ r, folL ⟨t, 0, 100, m⟩ (groupW g) = some ⟨t, g, r, m⟩ := by
  unfold groupW
  rw [folL_app]
  have hd : folL ⟨t, 0, 100, m⟩ (if g / 100 > 0 then [.low (g / 100), .hun] else []) = some ⟨t, 100 * (g / 100), 100, m⟩ := by
    by_cases c : g / 100 > 0
    · rw [if_pos c, folL_one (fol_dig (by omega) (by omega) (by omega)), folL_one (fol_hun (by omega) (by omega))]
      show some _ = some _
      congr 2
      omega
    · rw [if_neg c, show g / 100 = 0 by omega]
      rfl
  rw [hd]
  show ∃ r, folL ⟨t, 100 * (g / 100), 100, m⟩ _ = _
  by_cases c : g % 100 ≥ 20
  · rw [if_pos c, folL_one (fol_ten (by omega)), if_pos (by omega)]
    by_cases d : g % 100 % 10 > 0
    · rw [if_pos d, folL_one (fol_dig (by omega) (by omega) (by omega))]
      refine ⟨1, ?_⟩
      show some _ = some _
      congr 2
      omega
    · rw [if_neg d]
      refine ⟨10, ?_⟩
      show some _ = some _
      congr 2
      omega
  · rw [if_neg c]
    by_cases d : g % 100 > 0
    · rw [if_pos d]
      by_cases e : 10 ≤ g % 100
      · rw [folL_one (fol_ten e), if_neg (by omega)]
        refine ⟨1, ?_⟩
        show some _ = some _
        congr 2
        omega
      · rw [folL_one (fol_dig (by omega) (by omega) (by omega))]
        refine ⟨1, ?_⟩
        show some _ = some _
        congr 2
        omega
    · rw [if_neg d]
      refine ⟨100, ?_⟩
      show some _ = some _
      congr 2
      omega
theorem mod_succ (n : Int) (k : Nat) : n % W (k + 1) = gr n k * W k + n % W k := by
  have p := W_pos k
  unfold gr
  have e1 := Int.emod_add_mul_ediv n (W k)
  have e2 := Int.emod_add_mul_ediv (n / W k) 1000
  have e3 := Int.emod_add_mul_ediv n (W (k + 1))
  rw [div_succ] at e2
  rw [W_succ] at e3 ⊢
  have b1 := Int.emod_nonneg (n / W k) (show (1000 : Int) ≠ 0 by decide)
  -- n = n % W + W * (n / W); n / W = r + 1000 * q
  rw [W_succ] at e2
  have : W k * (n / W k) = W k * (n / W k % 1000) + 1000 * W k * (n / (1000 * W k)) := by
    conv => lhs; rw [← e2]
    rw [Int.mul_add, ← Int.mul_assoc, Int.mul_comm (W k) 1000]
  rw [Int.mul_comm (n / W k % 1000) (W k)]
  omega
theorem sp_path (n : Int) : ∀ (k : Nat) (t : Int) (m : Nat), k ≤ m → ∃ c, folL ⟨t, 0, 100, m⟩ (spW n k) = some c ∧ c.t + c.g = t + n % W k
  | 0, t, m, _ => ⟨_, rfl, by show t + 0 = t + n % 1; omega⟩
  | k + 1, t, m, h => by
    have gb := gr_bnd n k
    rw [mod_succ]
    show ∃ c, folL ⟨t, 0, 100, m⟩ (partW n k ++ spW n k) = some c ∧ _
    rw [folL_app]
    unfold partW
    by_cases c : gr n k > 0
    · rw [if_pos c, folL_app]
      obtain ⟨r, hr⟩ := group_path (t := t) (m := m) (show 1 ≤ gr n k by omega) gb.2
      rw [hr]
      by_cases d : k > 0
      · rw [if_pos d]
        obtain ⟨j, rfl⟩ : ∃ j, k = j + 1 := ⟨k - 1, by omega⟩
        show ∃ c, (folL ⟨t, gr n (j + 1), r, m⟩ [.sc (j + 1 - 1)]).bind (fun d => folL d (spW n (j + 1))) = some c ∧ _
        rw [Nat.add_sub_cancel, folL_one (fol_sc c (by omega))]
        obtain ⟨c', h1, h2⟩ := sp_path n (j + 1) (t + gr n (j + 1) * W (j + 1)) (j + 1) (Nat.le_refl _)
        exact ⟨c', h1, by omega⟩
      · have e : k = 0 := by omega
        subst e
        rw [if_neg (by decide)]
        refine ⟨_, rfl, ?_⟩
        show t + gr n 0 = t + (gr n 0 * 1 + n % 1)
        omega
    · rw [if_neg c]
      have z : gr n k = 0 := by omega
      obtain ⟨c', h1, h2⟩ := sp_path n k t m (by omega)
      refine ⟨c', h1, ?_⟩
      rw [h2, z, Int.zero_mul, Int.zero_add]
theorem name_path {n : Int} {k : Nat} (h0 : 0 ≤ n) (h1 : n < W (k + 1)) : ∃ c, folL (start k) (nameW n (k + 1)) = some c ∧ has c = true ∧ c.t + c.g = n := by
  unfold nameW
  by_cases z : n = 0
  · rw [if_pos z]
    refine ⟨zero, rfl, rfl, ?_⟩
    rw [z]
    rfl
  · rw [if_neg z]
    obtain ⟨c, h2, h3⟩ := sp_path n (k + 1) 0 (k + 1) (Nat.le_refl _)
    rw [Int.emod_eq_of_lt h0 h1, Int.zero_add] at h3
    refine ⟨c, h2, ?_, h3⟩
    unfold has
    rw [decide_eq_true (show c.t + c.g > 0 by omega)]
    rfl
/-! ### the words of names are words of the table -/
theorem low_all {k : Nat} {n : Int} (h0 : 0 ≤ n) (h1 : n < 20) : Wo.low n ∈ all k := by
  refine List.mem_cons_of_mem _ (List.mem_append_left _ (List.mem_map.mpr ⟨n.toNat, List.mem_range.mpr (by omega), ?_⟩))
  congr 1
  omega
theorem ten_all {k : Nat} {n : Int} (h0 : 2 ≤ n) (h1 : n ≤ 9) : Wo.low (10 * n) ∈ all k := by
  refine List.mem_cons_of_mem _ (List.mem_append_right _ (List.mem_append_left _ (List.mem_map.mpr ⟨(n - 2).toNat, List.mem_range.mpr (by omega), ?_⟩)))
  congr 1
  omega
theorem sc_all {k i : Nat} (h : i < k) : Wo.sc i ∈ all k := List.mem_cons_of_mem _ (List.mem_append_right _ (List.mem_append_right _ (List.mem_map.mpr ⟨i, List.mem_range.mpr h, rfl⟩)))
theorem group_all {k : Nat} {g : Int} (h1 : 0 ≤ g) (h2 : g ≤ 999) : ∀ x ∈ groupW g, x ∈ all k := by
  intro x hx
  unfold groupW at hx
  rcases List.mem_append.mp hx with hx | hx
  · split at hx
    · rcases List.mem_cons.mp hx with rfl | hx
      · exact low_all (by omega) (by omega)
      · rw [List.mem_singleton.mp hx]
        exact List.mem_cons_self
    · cases hx
  · split at hx
    · rcases List.mem_cons.mp hx with rfl | hx
      · exact ten_all (by omega) (by omega)
      · split at hx
        · rw [List.mem_singleton.mp hx]
          exact low_all (by omega) (by omega)
        · cases hx
    · split at hx
      · rw [List.mem_singleton.mp hx]
        exact low_all (by omega) (by omega)
      · cases hx
theorem sp_all {n : Int} {k : Nat} : ∀ i, i ≤ k + 1 → ∀ x ∈ spW n i, x ∈ all k
  | 0, _, x, hx => nomatch hx
  | i + 1, h, x, hx => by
    rcases List.mem_append.mp (show x ∈ partW n i ++ spW n i from hx) with hx | hx
    · have gb := gr_bnd n i
      unfold partW at hx
      split at hx
      · rcases List.mem_append.mp hx with hx | hx
        · exact group_all gb.1 gb.2 x hx
        · split at hx
          · rw [List.mem_singleton.mp hx]
            exact sc_all (by omega)
          · cases hx
      · cases hx
    · exact sp_all i (by omega) x hx
theorem name_all {n : Int} {k : Nat} : ∀ x ∈ nameW n (k + 1), x ∈ all k := by
  intro x hx
  unfold nameW at hx
  split at hx
  · rw [List.mem_singleton.mp hx]
    exact low_all (by decide) (by decide)
  · exact sp_all (k + 1) (Nat.le_refl _) x hx
/-! ### one number alone -/
theorem one_own {m : Int} {b : Bg} : own (fb m m) b = if has b = true ∧ b.t + b.g = m then 1 else 0 := by
  unfold own
  cases has b with
  | false => simp
  | true =>
    rw [if_pos rfl, fb_one (Int.le_refl m)]
    by_cases c : b.t + b.g = m
    · rw [if_pos (by omega), if_pos ⟨rfl, c⟩]
    · rw [if_neg (by omega), if_neg (by simp [c])]
/-- ends of sums of numbers that are not negative -/
theorem sumL_ge {α : Type} {f : α → Int} : ∀ {l : List α}, (∀ x ∈ l, 0 ≤ f x) → ∀ x ∈ l, f x ≤ sumL f l
  | y :: l, h, x, hx => by
    have h0 := h y List.mem_cons_self
    have hl := sumL_nonneg l fun z hz => h z (List.mem_cons_of_mem _ hz)
    show f x ≤ f y + sumL f l
    rcases List.mem_cons.mp hx with rfl | hx
    · omega
    · have := sumL_ge (fun z hz => h z (List.mem_cons_of_mem _ hz)) x hx
      omega
theorem cf_add (F G : Int → Int) (b : Bg) : cf (fun x => F x + G x) b = cf F b + cf G b := by
  unfold cf
  split
  · dsimp only
    omega
  · rw [← sumR_add]
    refine sumR_congr b.m fun j _ => ?_
    unfold cj
    simp only
    split <;> omega
theorem own_add (F G : Int → Int) (b : Bg) : own (fun x => F x + G x) b = own F b + own G b := by
  unfold own
  split
  · dsimp only
    omega
  · rfl
/-- the numbers of a range, one by one -/
theorem fb_sum (lo : Int) (n : Nat) : (fun x => fb lo (lo + (n : Int) - 1) x) = fun x => sumR (fun i => fb (lo + (i : Int)) (lo + (i : Int)) x) n := by
  funext x
  induction n with
  | zero =>
    show fb lo (lo + 0 - 1) x = 0
    unfold fb mx mn
    repeat' split
    all_goals omega
  | succ n ih =>
    show _ = sumR (fun i => fb (lo + (i : Int)) (lo + (i : Int)) x) n + fb (lo + (n : Int)) (lo + (n : Int)) x
    rw [← ih]
    unfold fb mx mn
    repeat' split
    all_goals omega
end Bg
set_option Elab.async false
set_option linter.all false
set_option maxRecDepth 100000
set_option maxHeartbeats 4000000
/-! Places are what the order of the names says. -/
namespace LB
open PySem L2 Wk
open Bg (Bg Wo)
/-- the order of names as lists of words -/
def ltL : List Str → List Str → Bool
  | _, [] => false
  | [], _ :: _ => true
  | a :: as, b :: bs => if WkI.ltS a b = true then true else if a = b then ltL as bs else false
theorem ltS_irrefl (x : Str) : WkI.ltS x x = false := decide_eq_false (List.lt_irrefl _)
theorem ltS_asym {x y : Str} (h : WkI.ltS x y = true) : WkI.ltS y x = false := (WkI.swoS (fun x : Str => x)).asym x y h
theorem ltS_trans {x y z : Str} (h1 : WkI.ltS x y = true) (h2 : WkI.ltS y z = true) : WkI.ltS x z = true := (WkI.swoS (fun x : Str => x)).ltle h1 (ltS_asym h2)
theorem ltL_irrefl : ∀ a : List Str, ltL a a = false
  | [] => rfl
  | x :: a => by
    show (if WkI.ltS x x = true then true else if x = x then ltL a a else false) = false
    rw [ltS_irrefl, if_neg Bool.false_ne_true, if_pos rfl, ltL_irrefl a]
theorem ltL_asym : ∀ {a b : List Str}, ltL a b = true → ltL b a = false
  | [], [], h => nomatch h
  | [], _ :: _, _ => rfl
  | _ :: _, [], h => nomatch h
  | x :: a, y :: b, h => by
    have h' : (if WkI.ltS x y = true then true else if x = y then ltL a b else false) = true := h
    show (if WkI.ltS y x = true then true else if y = x then ltL b a else false) = false
    by_cases c : WkI.ltS x y = true
    · rw [ltS_asym c, if_neg Bool.false_ne_true, if_neg]
      intro e
      rw [e, ltS_irrefl] at c
      cases c
    · rw [if_neg c] at h'
      by_cases d : x = y
      · subst d
        rw [if_pos rfl] at h'
        rw [if_neg c, if_pos rfl, ltL_asym h']
      · rw [if_neg d] at h'
        cases h'
theorem ltL_trans : ∀ {a b c : List Str}, ltL a b = true → ltL b c = true → ltL a c = true
  | a, [], _, h, _ => by
    have z : ltL a [] = false := by cases a <;> rfl
    rw [z] at h
    cases h
  | _, _ :: _, [], _, h => nomatch h
  | [], _ :: _, _ :: _, _, _ => rfl
  | x :: a, y :: b, z :: c, h1, h2 => by
    have h1' : (if WkI.ltS x y = true then true else if x = y then ltL a b else false) = true := h1
    have h2' : (if WkI.ltS y z = true then true else if y = z then ltL b c else false) = true := h2
    show (if WkI.ltS x z = true then true else if x = z then ltL a c else false) = true
    by_cases c1 : WkI.ltS x y = true
    · by_cases c2 : WkI.ltS y z = true
      · rw [if_pos (ltS_trans c1 c2)]
      · rw [if_neg c2] at h2'
        by_cases d : y = z
        · subst d
          rw [if_pos c1]
        · rw [if_neg d] at h2'
          cases h2'
    · rw [if_neg c1] at h1'
      by_cases d : x = y
      · subst d
        rw [if_pos rfl] at h1'
        by_cases c2 : WkI.ltS x z = true
        · rw [if_pos c2]
        · rw [if_neg c2] at h2' ⊢
          by_cases e : x = z
          · subst e
            rw [if_pos rfl] at h2' ⊢
            exact ltL_trans h1' h2'
          · rw [if_neg e] at h2'
            cases h2'
      · rw [if_neg d] at h1'
        cases h1'
theorem ltL_tri : ∀ {a b : List Str}, ltL a b = false → ltL b a = false → a = b
  | [], [], _, _ => rfl
  | [], _ :: _, h, _ => nomatch h
  | _ :: _, [], _, h => nomatch h
  | x :: a, y :: b, h1, h2 => by
    have h1' : (if WkI.ltS x y = true then true else if x = y then ltL a b else false) = false := h1
    have h2' : (if WkI.ltS y x = true then true else if y = x then ltL b a else false) = false := h2
    by_cases c1 : WkI.ltS x y = true
    · rw [if_pos c1] at h1'
      cases h1'
    · by_cases c2 : WkI.ltS y x = true
      · rw [if_pos c2] at h2'
        cases h2'
      · have e : x = y := WkI.ltS_tri (by simpa using c1) (by simpa using c2)
        subst e
        rw [if_neg c1, if_pos rfl] at h1'
        rw [if_neg c2, if_pos rfl] at h2'
        rw [ltL_tri h1' h2']
/-- a table's words, in their order, each once -/
structure Voc (ones tens : List Str) (hun : Str) (scales : List Str) (ws : List (Str × Wo)) : Prop where
  perm : ws.Perm (voc ones tens hun scales)
  asc : ascW ws
  l1 : ones.length = 20
  l2 : tens.length = 8
  nd : (ones ++ (tens ++ hun :: scales)).Nodup
section
variable {ones tens : List Str} {hun : Str} {scales : List Str} {ws : List (Str × Wo)}
theorem voc_wd (l1 : ones.length = 20) (l2 : tens.length = 8) : ∀ e ∈ voc ones tens hun scales, e.1 = wd ones tens hun scales e.2 := by
  have get : ∀ {f : Nat → Wo} {l : List Str} {e : Str × Wo}, e ∈ enumW f l → ∃ i : Nat, l[i]? = some e.1 ∧ e.2 = f i := by
    intro f l e he
    unfold enumW at he
    obtain ⟨y, hy, rfl⟩ := List.mem_map.mp he
    have := List.mem_zipIdx_iff_getElem?.mp hy
    exact ⟨y.2, this, rfl⟩
  intro e he
  unfold voc at he
  rcases List.mem_cons.mp he with rfl | he
  · rfl
  rcases List.mem_append.mp he with he | he
  · obtain ⟨i, hi, e2⟩ := get he
    have := (List.getElem?_eq_some_iff.mp hi).1
    rw [e2]
    unfold wd
    simp only
    rw [if_pos (by omega), Int.toNat_natCast, hi]
    rfl
  rcases List.mem_append.mp he with he | he
  · obtain ⟨i, hi, e2⟩ := get he
    have := (List.getElem?_eq_some_iff.mp hi).1
    rw [e2]
    unfold wd
    simp only
    rw [if_neg (by omega), show 10 * ((i : Int) + 2) / 10 - 2 = (i : Int) by omega, Int.toNat_natCast, hi]
    rfl
  · obtain ⟨i, hi, e2⟩ := get he
    rw [e2]
    unfold wd
    simp only
    rw [hi]
    rfl
theorem Voc.mem (V : Voc ones tens hun scales ws) {x : Wo} (h : x ∈ Bg.all scales.length) : (wd ones tens hun scales x, x) ∈ ws := by
  rw [← voc_snd (hun := hun) (scales := scales) V.l1 V.l2] at h
  obtain ⟨e, he, rfl⟩ := List.mem_map.mp h
  have e1 := voc_wd V.l1 V.l2 e he
  rw [← e1]
  exact V.perm.mem_iff.mpr he
theorem Voc.all (V : Voc ones tens hun scales ws) : (ws.map (·.2)).Perm (Bg.all scales.length) := by
  have := V.perm.map (·.2)
  rw [voc_snd V.l1 V.l2] at this
  exact this
theorem Voc.word (V : Voc ones tens hun scales ws) {e : Str × Wo} (h : e ∈ ws) : e.1 = wd ones tens hun scales e.2 ∧ e.2 ∈ Bg.all scales.length :=
  ⟨voc_wd V.l1 V.l2 e (V.perm.mem_iff.mp h), V.all.mem_iff.mp (List.mem_map.mpr ⟨e, h, rfl⟩)⟩
theorem Voc.inj (V : Voc ones tens hun scales ws) {x y : Wo} (hx : x ∈ Bg.all scales.length) (hy : y ∈ Bg.all scales.length) (h : wd ones tens hun scales x = wd ones tens hun scales y) : x = y := by
  have a := V.mem hx
  have b := V.mem hy
  rw [h] at a
  have key : ∀ {l : List (Str × Wo)}, ascW l → ∀ {w : Str} {p q : Wo}, (w, p) ∈ l → (w, q) ∈ l → p = q := by
    intro l
    induction l with
    | nil => intro _ _ _ _ h; cases h
    | cons e l ih =>
      intro asc w p q h1 h2
      obtain ⟨hd, tl⟩ := List.pairwise_cons.mp asc
      rcases List.mem_cons.mp h1 with e1 | e1
      · rcases List.mem_cons.mp h2 with e2 | e2
        · rw [← e2] at e1
          exact congrArg Prod.snd e1
        · have := hd _ e2
          rw [← e1, ltS_irrefl] at this
          cases this
      · rcases List.mem_cons.mp h2 with e2 | e2
        · have := hd _ e1
          rw [← e2, ltS_irrefl] at this
          cases this
        · exact ih tl e1 e2
  exact key V.asc a b
theorem steps_asc (b : Bg) : ∀ {l : List (Str × Wo)}, ascW l → (stepsOf b l).Pairwise fun e f => WkI.ltS e.1 f.1 = true
  | [], _ => List.Pairwise.nil
  | e :: l, h => by
    obtain ⟨hd, tl⟩ := List.pairwise_cons.mp h
    have ih := steps_asc b tl
    have c : stepsOf b (e :: l) = (match Bg.fol b e.2 with | none => [] | some c => [(e.1, c)]) ++ stepsOf b l := by
      show List.filterMap _ (e :: l) = _
      rw [List.filterMap_cons]
      cases Bg.fol b e.2 with
      | none => rfl
      | some c => rfl
    rw [c]
    cases Bg.fol b e.2 with
    | none => exact ih
    | some c =>
      refine List.pairwise_cons.mpr ⟨fun f hf => ?_, ih⟩
      obtain ⟨x, hx, _⟩ := steps_mem hf
      exact hd _ hx
theorem steps_of_mem {b c : Bg} {l : List (Str × Wo)} {w : Str} {x : Wo} (h : (w, x) ∈ l) (hf : Bg.fol b x = some c) : (w, c) ∈ stepsOf b l :=
  List.mem_filterMap.mpr ⟨(w, x), h, by rw [hf]; rfl⟩
/-- a split of the ascending steps at a word -/
theorem split_at {st : List (Str × Bg)} {w : Str} {c : Bg} (asc : st.Pairwise fun e f => WkI.ltS e.1 f.1 = true) (h : (w, c) ∈ st) :
    ∃ pre post, st = pre ++ (w, c) :: post ∧ st.takeWhile (fun e => decide (e.1 ≠ w)) = pre ∧ (∀ b, nxt st b w = c) ∧ (∀ e ∈ pre, WkI.ltS e.1 w = true) ∧ ∀ e ∈ post, WkI.ltS w e.1 = true := by
  obtain ⟨pre, post, e⟩ := List.append_of_mem h
  subst e
  obtain ⟨a1, a2, a3⟩ := List.pairwise_append.mp asc
  obtain ⟨b1, b2⟩ := List.pairwise_cons.mp a2
  have p1 : ∀ e ∈ pre, WkI.ltS e.1 w = true := fun e he => a3 e he (w, c) List.mem_cons_self
  have ne : ∀ e ∈ pre, e.1 ≠ w := fun e he z => by
    have := p1 e he
    rw [z, ltS_irrefl] at this
    cases this
  refine ⟨pre, post, rfl, ?_, fun b => ?_, p1, b1⟩
  · rw [List.takeWhile_append_of_pos (fun e he => decide_eq_true (ne e he)), List.takeWhile_cons_of_neg (by simp), List.append_nil]
  · unfold nxt
    rw [List.find?_append, List.find?_eq_none.mpr (fun e he => by simpa using ne e he), List.find?_cons_of_pos (by simp)]
    rfl
/-- the hits of one number m -/
theorem hit_own {b : Bg} {m : Int} {k : Nat} (V : Voc ones tens hun scales ws) (ok : Bg.Ok b) (bm : b.m ≤ scales.length + 1) :
    Bg.cf (Bg.fb m m) b = Bg.own (Bg.fb m m) b + Bg.sumL (cfS (Bg.fb m m)) (stepsOf b ws) := steps_count ok bm V.all
theorem step_ok (V : Voc ones tens hun scales ws) {b : Bg} {e : Str × Bg} (ok : Bg.Ok b) (h : e ∈ stepsOf b ws) : Bg.Ok e.2 ∧ e.2.m ≤ b.m := by
  obtain ⟨x, hx, hf⟩ := steps_mem h
  exact ⟨Bg.fol_ok ok (Bg.all_ok (V.word hx).2) hf, Bg.fol_m hf⟩
theorem step_nneg (V : Voc ones tens hun scales ws) {b : Bg} {lo hi : Int} (ok : Bg.Ok b) : ∀ e ∈ stepsOf b ws, 0 ≤ cfS (Bg.fb lo hi) e := fun e he => Bg.cf_nonneg (step_ok V ok he).1
theorem hit_path (V : Voc ones tens hun scales ws) {m : Int} : ∀ (A : List Wo) {b c : Bg}, Bg.Ok b → b.m ≤ scales.length + 1 → (∀ x ∈ A, x ∈ Bg.all scales.length) → Bg.folL b A = some c → Bg.has c = true → c.t + c.g = m → 1 ≤ Bg.cf (Bg.fb m m) b
  | [], b, c, ok, bm, _, hf, hc, hm => by
    cases hf
    have s := Bg.sumL_nonneg _ (step_nneg V (lo := m) (hi := m) ok)
    have o := Bg.one_own (m := m) (b := b)
    rw [if_pos ⟨hc, hm⟩] at o
    have := hit_own (m := m) (k := 0) V ok bm
    omega
  | x :: A, b, c, ok, bm, hA, hf, hc, hm => by
    have hf' : (Bg.fol b x).bind (fun d => Bg.folL d A) = some c := hf
    cases hx : Bg.fol b x with
    | none =>
      rw [hx] at hf'
      cases hf'
    | some d =>
      rw [hx] at hf'
      have xa := hA x List.mem_cons_self
      have okd := Bg.fol_ok ok (Bg.all_ok xa) hx
      have ih := hit_path V A okd (Nat.le_trans (Bg.fol_m hx) bm) (fun y hy => hA y (List.mem_cons_of_mem _ hy)) hf' hc hm
      have mem := steps_of_mem (V.mem xa) hx
      have ge := Bg.sumL_ge (step_nneg V (lo := m) (hi := m) ok) _ mem
      have o0 := Bg.own_nonneg (b := b) (Int.le_refl m)
      have := hit_own (m := m) (k := 0) V ok bm
      have e : cfS (Bg.fb m m) (wd ones tens hun scales x, d) = Bg.cf (Bg.fb m m) d := rfl
      omega
/-- where the number m is not, nothing is counted -/
theorem plc_zero (V : Voc ones tens hun scales ws) {m : Int} : ∀ (B : List Wo) {b c : Bg} (acc : Int), Bg.Ok b → b.m ≤ scales.length + 1 → (∀ x ∈ B, x ∈ Bg.all scales.length) → Bg.folL b B = some c → Bg.cf (Bg.fb m m) b = 0 →
    plc (Bg.fb m m) ws b (B.map (wd ones tens hun scales)) acc = acc
  | [], _, _, _, _, _, _, _, _ => rfl
  | y :: B, b, c, acc, ok, bm, hB, hf, z => by
    have hf' : (Bg.fol b y).bind (fun d => Bg.folL d B) = some c := hf
    cases hy : Bg.fol b y with
    | none =>
      rw [hy] at hf'
      cases hf'
    | some d =>
      rw [hy] at hf'
      have ya := hB y List.mem_cons_self
      have okd := Bg.fol_ok ok (Bg.all_ok ya) hy
      obtain ⟨pre, post, es, e1, e2, _, _⟩ := split_at (steps_asc b V.asc) (steps_of_mem (V.mem ya) hy)
      have tot := hit_own (m := m) (k := 0) V ok bm
      have o0 := Bg.own_nonneg (b := b) (Int.le_refl m)
      have nn := step_nneg V (lo := m) (hi := m) ok
      rw [es, Bg.sumL_append] at tot
      rw [es] at nn
      have s1 := Bg.sumL_nonneg pre fun e he => nn e (List.mem_append_left _ he)
      have s2 := Bg.sumL_nonneg post fun e he => nn e (List.mem_append_right _ (List.mem_cons_of_mem _ he))
      have s3 := Bg.cf_nonneg (lo := m) (hi := m) okd
      have tot' : Bg.cf (Bg.fb m m) b = Bg.own (Bg.fb m m) b + (Bg.sumL (cfS (Bg.fb m m)) pre + (Bg.cf (Bg.fb m m) d + Bg.sumL (cfS (Bg.fb m m)) post)) := tot
      show plc (Bg.fb m m) ws (nxt (stepsOf b ws) b (wd ones tens hun scales y)) (B.map (wd ones tens hun scales)) (acc + Bg.own (Bg.fb m m) b + Bg.sumL (cfS (Bg.fb m m)) ((stepsOf b ws).takeWhile fun e => decide (e.1 ≠ wd ones tens hun scales y))) = acc
      rw [e1, e2, plc_zero V B _ okd (Nat.le_trans (Bg.fol_m hy) bm) (fun x hx => hB x (List.mem_cons_of_mem _ hx)) hf' (by omega)]
      omega
/-- the number m is counted ahead of the name B exactly if its own name A is less -/
theorem plc_one (V : Voc ones tens hun scales ws) {m : Int} : ∀ (B A : List Wo) {b c d : Bg} (acc : Int), Bg.Ok b → b.m ≤ scales.length + 1 → (∀ x ∈ B, x ∈ Bg.all scales.length) → (∀ x ∈ A, x ∈ Bg.all scales.length) → Bg.folL b B = some c →
    Bg.folL b A = some d → Bg.has d = true → d.t + d.g = m → Bg.cf (Bg.fb m m) b = 1 →
    plc (Bg.fb m m) ws b (B.map (wd ones tens hun scales)) acc = acc + if ltL (A.map (wd ones tens hun scales)) (B.map (wd ones tens hun scales)) = true then 1 else 0
  | [], A, _, _, _, acc, _, _, _, _, _, _, _, _, _ => by
    show acc = acc + if ltL _ [] = true then 1 else 0
    have : ltL (A.map (wd ones tens hun scales)) [] = false := by cases A <;> rfl
    rw [this, if_neg Bool.false_ne_true]
    omega
  | y :: B, A, b, c, d, acc, ok, bm, hB, hA, hf, hd, hh, hm, one => by
    have hf' : (Bg.fol b y).bind (fun d => Bg.folL d B) = some c := hf
    cases hy : Bg.fol b y with
    | none =>
      rw [hy] at hf'
      cases hf'
    | some z =>
      rw [hy] at hf'
      have ya := hB y List.mem_cons_self
      have okz := Bg.fol_ok ok (Bg.all_ok ya) hy
      have zm := Nat.le_trans (Bg.fol_m hy) bm
      have hB' : ∀ x ∈ B, x ∈ Bg.all scales.length := fun x hx => hB x (List.mem_cons_of_mem _ hx)
      obtain ⟨pre, post, es, e1, e2, lt1, lt2⟩ := split_at (steps_asc b V.asc) (steps_of_mem (V.mem ya) hy)
      have tot := hit_own (m := m) (k := 0) V ok bm
      have o0 := Bg.own_nonneg (b := b) (Int.le_refl m)
      have nn := step_nneg V (lo := m) (hi := m) ok
      rw [es, Bg.sumL_append] at tot
      rw [es] at nn
      have nn1 : ∀ e ∈ pre, 0 ≤ cfS (Bg.fb m m) e := fun e he => nn e (List.mem_append_left _ he)
      have nn2 : ∀ e ∈ post, 0 ≤ cfS (Bg.fb m m) e := fun e he => nn e (List.mem_append_right _ (List.mem_cons_of_mem _ he))
      have s1 := Bg.sumL_nonneg pre nn1
      have s2 := Bg.sumL_nonneg post nn2
      have s3 := Bg.cf_nonneg (lo := m) (hi := m) okz
      have tot' : Bg.cf (Bg.fb m m) b = Bg.own (Bg.fb m m) b + (Bg.sumL (cfS (Bg.fb m m)) pre + (Bg.cf (Bg.fb m m) z + Bg.sumL (cfS (Bg.fb m m)) post)) := tot
      show plc (Bg.fb m m) ws (nxt (stepsOf b ws) b (wd ones tens hun scales y)) (B.map (wd ones tens hun scales)) (acc + Bg.own (Bg.fb m m) b + Bg.sumL (cfS (Bg.fb m m)) ((stepsOf b ws).takeWhile fun e => decide (e.1 ≠ wd ones tens hun scales y))) = _
      rw [e1, e2]
      cases A with
      | nil =>
        cases hd
        have o := Bg.one_own (m := m) (b := b)
        rw [if_pos ⟨hh, hm⟩] at o
        rw [plc_zero V B _ okz zm hB' hf' (by omega)]
        show _ = acc + if ltL [] (_ :: _) = true then 1 else 0
        rw [show ltL [] (wd ones tens hun scales y :: List.map (wd ones tens hun scales) B) = true from rfl, if_pos rfl]
        omega
      | cons x A =>
        have hd' : (Bg.fol b x).bind (fun d => Bg.folL d A) = some d := hd
        cases hx : Bg.fol b x with
        | none =>
          rw [hx] at hd'
          cases hd'
        | some u =>
          rw [hx] at hd'
          have xa := hA x List.mem_cons_self
          have oku := Bg.fol_ok ok (Bg.all_ok xa) hx
          have um := Nat.le_trans (Bg.fol_m hx) bm
          have hA' : ∀ x ∈ A, x ∈ Bg.all scales.length := fun y hy => hA y (List.mem_cons_of_mem _ hy)
          have hu := hit_path V A oku um hA' hd' hh hm
          have mem := steps_of_mem (V.mem xa) hx
          rw [es] at mem
          have eu : cfS (Bg.fb m m) (wd ones tens hun scales x, u) = Bg.cf (Bg.fb m m) u := rfl
          show _ = acc + if ltL (wd ones tens hun scales x :: A.map (wd ones tens hun scales)) (wd ones tens hun scales y :: B.map (wd ones tens hun scales)) = true then 1 else 0
          have lt_eq : ltL (wd ones tens hun scales x :: A.map (wd ones tens hun scales)) (wd ones tens hun scales y :: B.map (wd ones tens hun scales)) = if WkI.ltS (wd ones tens hun scales x) (wd ones tens hun scales y) = true then true else if wd ones tens hun scales x = wd ones tens hun scales y then ltL (A.map (wd ones tens hun scales)) (B.map (wd ones tens hun scales)) else false := rfl
          rcases List.mem_append.mp mem with mem | mem
          · -- ahead
            have g := Bg.sumL_ge nn1 _ mem
            rw [lt_eq, if_pos (lt1 _ mem), if_pos rfl, plc_zero V B _ okz zm hB' hf' (by omega)]
            omega
          · rcases List.mem_cons.mp mem with e | mem
            · -- the same word
              have ew : wd ones tens hun scales x = wd ones tens hun scales y := congrArg Prod.fst e
              have ez : u = z := congrArg Prod.snd e
              subst ez
              rw [lt_eq, ew, ltS_irrefl, if_neg Bool.false_ne_true, if_pos rfl, plc_one V B A _ okz zm hB' hA' hf' hd' hh hm (by omega)]
              omega
            · have g := Bg.sumL_ge nn2 _ mem
              have l := lt2 _ mem
              have ne : wd ones tens hun scales x ≠ wd ones tens hun scales y := fun q => by
                rw [show wd ones tens hun scales x = wd ones tens hun scales y from q, ltS_irrefl] at l
                cases l
              rw [lt_eq, ltS_asym l, if_neg Bool.false_ne_true, if_neg ne, if_neg Bool.false_ne_true, plc_zero V B _ okz zm hB' hf' (by omega)]
              omega
theorem sumL_add {α : Type} (f g : α → Int) : ∀ l : List α, Bg.sumL (fun x => f x + g x) l = Bg.sumL f l + Bg.sumL g l
  | [] => rfl
  | x :: l => by
    show f x + g x + Bg.sumL (fun x => f x + g x) l = f x + Bg.sumL f l + (g x + Bg.sumL g l)
    rw [sumL_add f g l]
    omega
theorem plc_add (F G : Int → Int) (ws : List (Str × Wo)) : ∀ (xs : List Str) (b : Bg) (p q : Int), plc (fun x => F x + G x) ws b xs (p + q) = plc F ws b xs p + plc G ws b xs q
  | [], _, _, _ => rfl
  | x :: xs, b, p, q => by
    show plc (fun x => F x + G x) ws (nxt (stepsOf b ws) b x) xs (p + q + Bg.own (fun x => F x + G x) b + Bg.sumL (cfS fun x => F x + G x) ((stepsOf b ws).takeWhile fun e => decide (e.1 ≠ x))) =
      plc F ws (nxt (stepsOf b ws) b x) xs (p + Bg.own F b + Bg.sumL (cfS F) ((stepsOf b ws).takeWhile fun e => decide (e.1 ≠ x))) + plc G ws (nxt (stepsOf b ws) b x) xs (q + Bg.own G b + Bg.sumL (cfS G) ((stepsOf b ws).takeWhile fun e => decide (e.1 ≠ x)))
    rw [← plc_add F G ws xs]
    congr 1
    have e : (cfS fun x => F x + G x) = fun e => cfS F e + cfS G e := by
      funext e
      exact Bg.cf_add F G e.2
    rw [e, sumL_add, Bg.own_add]
    omega
theorem plc_null (ws : List (Str × Wo)) : ∀ (xs : List Str) (b : Bg) (p : Int), plc (fun _ => 0) ws b xs p = p
  | [], _, _ => rfl
  | x :: xs, b, p => by
    have c0 : ∀ b : Bg, Bg.cf (fun _ => 0) b = 0 := fun b => by
      unfold Bg.cf
      split
      · rfl
      · refine (Bg.sumR_congr b.m fun j _ => ?_).trans (Bg.sumR_zero b.m)
        unfold Bg.cj
        split <;> rfl
    show plc (fun _ => 0) ws _ xs (p + Bg.own (fun _ => 0) b + Bg.sumL (cfS fun _ => 0) _) = p
    rw [plc_null ws xs, Bg.sumL_zero _ (fun e _ => c0 e.2)]
    unfold Bg.own
    split <;> simp
theorem plc_sum (f : Nat → Int → Int) (ws : List (Str × Wo)) (xs : List Str) (b : Bg) : ∀ n, plc (fun x => Bg.sumR (fun i => f i x) n) ws b xs 0 = Bg.sumR (fun i => plc (f i) ws b xs 0) n
  | 0 => plc_null ws xs b 0
  | n + 1 => by
    show plc (fun x => Bg.sumR (fun i => f i x) n + f n x) ws b xs (0 + 0) = Bg.sumR (fun i => plc (f i) ws b xs 0) n + plc (f n) ws b xs 0
    rw [plc_add, plc_sum f ws xs b n]
/-- the name of a number as a list of words -/
def nmL (ones tens : List Str) (hun : Str) (scales : List Str) (n : Int) : List Str := (Bg.nameW n (scales.length + 1)).map (wd ones tens hun scales)
/-- the numbers of a range that come before n -/
def ahead (ones tens : List Str) (hun : Str) (scales : List Str) (lo hi n : Int) : Int :=
  Bg.sumR (fun i => if ltL (nmL ones tens hun scales (lo + (i : Int))) (nmL ones tens hun scales n) = true then 1 else 0) (hi - lo + 1).toNat
/-- THE PLACE: the program's count is the number of numbers of the range that come before -/
theorem place_is (V : Voc ones tens hun scales ws) {lo hi n : Int} (lo0 : 0 ≤ lo) (lh : lo ≤ hi) (h1 : hi < Bg.W (scales.length + 1)) (n0 : 0 ≤ n) (n1 : n < Bg.W (scales.length + 1)) :
    plc (Bg.fb lo hi) ws (Bg.start scales.length) ((Bg.nameW n (scales.length + 1)).map (wd ones tens hun scales)) 0 = ahead ones tens hun scales lo hi n := by
  have e := Bg.fb_sum lo (hi - lo + 1).toNat
  rw [show lo + (((hi - lo + 1).toNat : Nat) : Int) - 1 = hi by omega] at e
  rw [show Bg.fb lo hi = fun x => Bg.fb lo hi x from rfl, e, plc_sum]
  unfold ahead
  refine Bg.sumR_congr _ fun i hi' => ?_
  have m0 : 0 ≤ lo + (i : Int) := by omega
  have m1 : lo + (i : Int) < Bg.W (scales.length + 1) := by omega
  obtain ⟨c, c1, c2, c3⟩ := Bg.name_path n0 n1
  obtain ⟨d, d1, d2, d3⟩ := Bg.name_path m0 m1
  have one := Bg.start_all (k := scales.length) m0 (Int.le_refl _) m1
  rw [plc_one V _ _ 0 (Bg.start_ok _) (Nat.le_refl _) Bg.name_all Bg.name_all c1 d1 d2 d3 (by omega)]
  show 0 + _ = _
  rw [Int.zero_add]
  rfl
end
end LB
set_option Elab.async false
set_option linter.all false
set_option maxRecDepth 100000
set_option maxHeartbeats 4000000
/-! The number at a place; what places of ranges do; names as texts. -/
namespace LB
open PySem L2 Wk
open Bg (Bg Wo)
section
variable {ones tens : List Str} {hun : Str} {scales : List Str} {ws : List (Str × Wo)}
/-- the path to the number that is found -/
theorem numAt_path (V : Voc ones tens hun scales ws) {F : Int → Int} {b : Bg} {left r : Int} (h : NumAt F ws b left r) : Bg.Ok b → ∃ (A : List Wo) (c : Bg), (∀ x ∈ A, x ∈ Bg.all scales.length) ∧ Bg.folL b A = some c ∧ c.t + c.g = r ∧ Bg.own F c = 1 ∧
    ∀ acc, plc F ws b (A.map (wd ones tens hun scales)) acc = acc + left := by
  induction h with
  | @own b h =>
    intro _
    exact ⟨[], b, (fun x hx => nomatch hx), rfl, rfl, h, fun acc => by show acc = acc + 0; omega⟩
  | @step b c x left r pre post es h0 h1 _ ih =>
    intro ok
    have mem : (x, c) ∈ stepsOf b ws := by rw [es]; exact List.mem_append_right _ List.mem_cons_self
    obtain ⟨w, hw, hf⟩ := steps_mem mem
    obtain ⟨ew, wa⟩ := V.word hw
    obtain ⟨A, d, a1, a2, a3, a4, a5⟩ := ih (Bg.fol_ok ok (Bg.all_ok wa) hf)
    refine ⟨w :: A, d, fun y hy => ?_, ?_, a3, a4, fun acc => ?_⟩
    · rcases List.mem_cons.mp hy with rfl | hy
      · exact wa
      · exact a1 y hy
    · rw [Bg.folL_one hf]
      exact a2
    · obtain ⟨pre', post', es', e1, e2, lt1, _⟩ := split_at (steps_asc b V.asc) mem
      have asc := steps_asc b V.asc
      have e3 : (stepsOf b ws).takeWhile (fun e => decide (e.1 ≠ x)) = pre := by
        rw [es] at asc ⊢
        obtain ⟨_, _, q3⟩ := List.pairwise_append.mp asc
        have ne : ∀ e ∈ pre, (fun e : Str × Bg => decide (e.1 ≠ x)) e = true := fun e he => decide_eq_true fun z => by
          have := q3 e he (x, c) List.mem_cons_self
          rw [z, ltS_irrefl] at this
          cases this
        rw [List.takeWhile_append_of_pos ne, List.takeWhile_cons_of_neg (by simp), List.append_nil]
      have ew' : x = wd ones tens hun scales w := ew
      show plc F ws (nxt (stepsOf b ws) b (wd ones tens hun scales w)) (A.map (wd ones tens hun scales)) (acc + Bg.own F b + Bg.sumL (cfS F) ((stepsOf b ws).takeWhile fun e => decide (e.1 ≠ wd ones tens hun scales w))) = acc + left
      rw [← ew', e2, e3, a5]
      omega
/-- two paths to one number are one -/
theorem path_words (V : Voc ones tens hun scales ws) {m : Int} {A B : List Wo} {b c d : Bg} (ok : Bg.Ok b) (bm : b.m ≤ scales.length + 1) (hA : ∀ x ∈ A, x ∈ Bg.all scales.length) (hB : ∀ x ∈ B, x ∈ Bg.all scales.length)
    (fA : Bg.folL b A = some c) (fB : Bg.folL b B = some d) (hc : Bg.has c = true) (hd : Bg.has d = true) (nc : c.t + c.g = m) (nd : d.t + d.g = m) (one : Bg.cf (Bg.fb m m) b = 1) : A.map (wd ones tens hun scales) = B.map (wd ones tens hun scales) := by
  have h1 := plc_one V B A 0 ok bm hB hA fB fA hc nc one
  have h2 := plc_one V B B 0 ok bm hB hB fB fB hd nd one
  have h3 := plc_one V A B 0 ok bm hA hB fA fB hd nd one
  have h4 := plc_one V A A 0 ok bm hA hA fA fA hc nc one
  rw [ltL_irrefl, if_neg Bool.false_ne_true] at h2 h4
  refine ltL_tri ?_ ?_
  · rw [h2] at h1
    cases q : ltL (A.map (wd ones tens hun scales)) (B.map (wd ones tens hun scales)) with
    | false => rfl
    | true =>
      rw [q, if_pos rfl] at h1
      omega
  · rw [h4] at h3
    cases q : ltL (B.map (wd ones tens hun scales)) (A.map (wd ones tens hun scales)) with
    | false => rfl
    | true =>
      rw [q, if_pos rfl] at h3
      omega
theorem has_of_own {F : Int → Int} {c : Bg} (h : Bg.own F c = 1) : Bg.has c = true := by
  unfold Bg.own at h
  cases e : Bg.has c with
  | true => rfl
  | false =>
    rw [e, if_neg Bool.false_ne_true] at h
    cases h
/-- THE NUMBER AT A PLACE: it is of the range, and so many come before it -/
theorem number_is (V : Voc ones tens hun scales ws) {lo hi p r : Int} (lo0 : 0 ≤ lo) (lh : lo ≤ hi) (h1 : hi < Bg.W (scales.length + 1)) (h : NumAt (Bg.fb lo hi) ws (Bg.start scales.length) p r) :
    lo ≤ r ∧ r ≤ hi ∧ ahead ones tens hun scales lo hi r = p := by
  obtain ⟨A, c, a1, a2, a3, a4, a5⟩ := numAt_path V h (Bg.start_ok _)
  have hc := has_of_own a4
  rw [Bg.own_code lh, a3, hc, Bool.true_and] at a4
  have rng : lo ≤ r ∧ r ≤ hi := by
    by_cases q : (decide (lo ≤ r) && decide (r ≤ hi)) = true
    · rw [Bool.and_eq_true, decide_eq_true_eq, decide_eq_true_eq] at q
      exact q
    · rw [if_neg q] at a4
      cases a4
  have r0 : 0 ≤ r := by omega
  have r1 : r < Bg.W (scales.length + 1) := by omega
  obtain ⟨d, d1, d2, d3⟩ := Bg.name_path r0 r1
  have one := Bg.start_all (k := scales.length) r0 (Int.le_refl _) r1
  have e := path_words V (Bg.start_ok _) (Nat.le_refl _) a1 Bg.name_all a2 d1 hc d2 a3 d3 (by omega)
  refine ⟨rng.1, rng.2, ?_⟩
  have z := a5 0
  rw [e, place_is V lo0 lh h1 r0 r1, Int.zero_add] at z
  exact z
/-- a name is that of one number alone -/
theorem name_inj (V : Voc ones tens hun scales ws) {m n : Int} (m0 : 0 ≤ m) (m1 : m < Bg.W (scales.length + 1)) (n0 : 0 ≤ n) (n1 : n < Bg.W (scales.length + 1)) (h : nmL ones tens hun scales m = nmL ones tens hun scales n) : m = n := by
  have inj : ∀ {A B : List Wo}, (∀ x ∈ A, x ∈ Bg.all scales.length) → (∀ x ∈ B, x ∈ Bg.all scales.length) → A.map (wd ones tens hun scales) = B.map (wd ones tens hun scales) → A = B := by
    intro A
    induction A with
    | nil =>
      intro B _ _ h
      cases B with
      | nil => rfl
      | cons _ _ => cases h
    | cons x A ih =>
      intro B hA hB h
      cases B with
      | nil => cases h
      | cons y B =>
        rw [List.map_cons, List.map_cons] at h
        obtain ⟨h1, h2⟩ := List.cons.inj h
        rw [V.inj (hA x List.mem_cons_self) (hB y List.mem_cons_self) h1, ih (fun z hz => hA z (List.mem_cons_of_mem _ hz)) (fun z hz => hB z (List.mem_cons_of_mem _ hz)) h2]
  have e := inj Bg.name_all Bg.name_all h
  obtain ⟨c, c1, _, c3⟩ := Bg.name_path m0 m1
  obtain ⟨d, d1, _, d3⟩ := Bg.name_path n0 n1
  rw [e, d1] at c1
  cases c1
  omega
end
/-! ### what places do -/
section
variable (ones tens : List Str) (hun : Str) (scales : List Str)
def less (m n : Int) : Bool := ltL (nmL ones tens hun scales m) (nmL ones tens hun scales n)
theorem ahead_nneg (lo hi n : Int) : 0 ≤ ahead ones tens hun scales lo hi n := Bg.sumR_nonneg _ fun j _ => by split <;> decide
theorem sumR_le {f g : Nat → Int} : ∀ n, (∀ j, j < n → f j ≤ g j) → Bg.sumR f n ≤ Bg.sumR g n
  | 0, _ => Int.le_refl 0
  | n + 1, h => by
    have a := sumR_le n fun j hj => h j (Nat.lt_succ_of_lt hj)
    have b := h n (Nat.lt_succ_self n)
    show Bg.sumR f n + f n ≤ Bg.sumR g n + g n
    omega
theorem sumR_lt {f g : Nat → Int} : ∀ n, (∀ j, j < n → f j ≤ g j) → ∀ i, i < n → f i < g i → Bg.sumR f n < Bg.sumR g n
  | n + 1, h, i, hi, lt => by
    have a := sumR_le n fun j hj => h j (Nat.lt_succ_of_lt hj)
    have b := h n (Nat.lt_succ_self n)
    show Bg.sumR f n + f n < Bg.sumR g n + g n
    by_cases e : i = n
    · subst e
      omega
    · have := sumR_lt n (fun j hj => h j (Nat.lt_succ_of_lt hj)) i (by omega) lt
      omega
theorem sumR_one : ∀ n, Bg.sumR (fun _ => 1) n = (n : Int)
  | 0 => rfl
  | n + 1 => by
    show Bg.sumR (fun _ => 1) n + 1 = _
    rw [sumR_one n]
    omega
theorem ahead_le {lo hi n : Int} (h : lo ≤ hi + 1) : ahead ones tens hun scales lo hi n ≤ hi - lo + 1 := by
  unfold ahead
  have := sumR_le (f := fun i : Nat => if ltL (nmL ones tens hun scales (lo + (i : Int))) (nmL ones tens hun scales n) = true then (1 : Int) else 0) (g := fun _ => 1) (hi - lo + 1).toNat fun j _ => by split <;> decide
  rw [sumR_one] at this
  omega
theorem ahead_in {lo hi n : Int} (h1 : lo ≤ n) (h2 : n ≤ hi) : ahead ones tens hun scales lo hi n ≤ hi - lo := by
  unfold ahead
  have := sumR_lt (f := fun i : Nat => if ltL (nmL ones tens hun scales (lo + (i : Int))) (nmL ones tens hun scales n) = true then (1 : Int) else 0) (g := fun _ => 1) (hi - lo + 1).toNat (fun j _ => by split <;> decide) (n - lo).toNat (by omega) (by
    rw [show lo + (((n - lo).toNat : Nat) : Int) = n by omega, ltL_irrefl]
    decide)
  rw [sumR_one] at this
  omega
theorem ahead_mono {lo hi a b : Int} (h : ltL (nmL ones tens hun scales b) (nmL ones tens hun scales a) = false) : ahead ones tens hun scales lo hi a ≤ ahead ones tens hun scales lo hi b := by
  unfold ahead
  refine sumR_le _ fun j _ => ?_
  by_cases c : ltL (nmL ones tens hun scales (lo + (j : Int))) (nmL ones tens hun scales a) = true
  · by_cases d : ltL (nmL ones tens hun scales (lo + (j : Int))) (nmL ones tens hun scales b) = true
    · rw [if_pos c, if_pos d]
      exact Int.le_refl _
    · exfalso
      cases q : ltL (nmL ones tens hun scales b) (nmL ones tens hun scales (lo + (j : Int))) with
      | true =>
        rw [ltL_trans q c] at h
        cases h
      | false =>
        have e := ltL_tri (by simpa using d) q
        rw [e] at c
        rw [h] at c
        cases c
  · rw [if_neg c]
    split <;> decide
theorem ahead_lt {lo hi a b : Int} (h1 : lo ≤ a) (h2 : a ≤ hi) (h : ltL (nmL ones tens hun scales a) (nmL ones tens hun scales b) = true) : ahead ones tens hun scales lo hi a < ahead ones tens hun scales lo hi b := by
  unfold ahead
  refine sumR_lt _ (fun j _ => ?_) (a - lo).toNat (by omega) ?_
  · by_cases c : ltL (nmL ones tens hun scales (lo + (j : Int))) (nmL ones tens hun scales a) = true
    · rw [if_pos c, if_pos (ltL_trans c h)]
      exact Int.le_refl _
    · rw [if_neg c]
      split <;> decide
  · rw [show lo + (((a - lo).toNat : Nat) : Int) = a by omega, ltL_irrefl, h]
    decide
theorem ahead_add {lo hi n : Int} (h : lo ≤ hi + 1) : ahead ones tens hun scales lo (hi + 1) n = ahead ones tens hun scales lo hi n + if ltL (nmL ones tens hun scales (hi + 1)) (nmL ones tens hun scales n) = true then 1 else 0 := by
  unfold ahead
  rw [show (hi + 1 - lo + 1).toNat = (hi - lo + 1).toNat + 1 by omega]
  show _ + (if ltL (nmL ones tens hun scales (lo + (((hi - lo + 1).toNat : Nat) : Int))) (nmL ones tens hun scales n) = true then (1 : Int) else 0) = _
  rw [show lo + (((hi - lo + 1).toNat : Nat) : Int) = hi + 1 by omega]
theorem ahead_grow {lo hi n : Int} : ∀ d : Nat, lo ≤ hi + 1 → ahead ones tens hun scales lo hi n ≤ ahead ones tens hun scales lo (hi + (d : Int)) n
  | 0, _ => by
    rw [show hi + ((0 : Nat) : Int) = hi by omega]
    exact Int.le_refl _
  | d + 1, h => by
    have ih := ahead_grow (n := n) d h
    rw [show hi + ((d + 1 : Nat) : Int) = hi + (d : Int) + 1 by omega, ahead_add ones tens hun scales (by omega)]
    split <;> omega
theorem ahead_cut {lo cut n : Int} : ∀ d : Nat, lo ≤ cut + 1 → ahead ones tens hun scales lo (cut + (d : Int)) n = ahead ones tens hun scales lo cut n + ahead ones tens hun scales (cut + 1) (cut + (d : Int)) n
  | 0, _ => by
    rw [show cut + ((0 : Nat) : Int) = cut by omega]
    unfold ahead
    rw [show (cut - (cut + 1) + 1).toNat = 0 by omega]
    show _ = _ + (0 : Int)
    omega
  | d + 1, h => by
    have ih := ahead_cut (n := n) d h
    rw [show cut + ((d + 1 : Nat) : Int) = cut + (d : Int) + 1 by omega, ahead_add ones tens hun scales (by omega), ahead_add ones tens hun scales (by omega), ih]
    omega
end
/-! ### names as texts -/
def jl : List (List Nat) → List Nat
  | [] => []
  | [x] => x
  | x :: y :: r => x ++ 32 :: jl (y :: r)
theorem glued_jl (xs : List Str) : (Txt.join " " xs).cps.toList = jl (xs.map fun x => x.cps.toList) := by
  have fold : ∀ (l : List Str) (acc : Array Nat), (l.foldl (fun acc p => acc ++ (" " : Str).cps ++ p.cps) acc).toList = acc.toList ++ (l.map fun x => 32 :: x.cps.toList).flatten := by
    intro l
    induction l with
    | nil =>
      intro acc
      simp
    | cons x l ih =>
      intro acc
      rw [List.foldl_cons, ih]
      have : (" " : Str).cps.toList = [32] := by decide +kernel
      simp [this]
  have flat : ∀ (x : List Nat) (l : List Str), x ++ (l.map fun x => 32 :: x.cps.toList).flatten = jl (x :: l.map fun x => x.cps.toList) := by
    intro x l
    induction l generalizing x with
    | nil => simp [jl]
    | cons y l ih =>
      show x ++ (32 :: y.cps.toList ++ (l.map fun x => 32 :: x.cps.toList).flatten) = x ++ 32 :: jl (y.cps.toList :: l.map fun x => x.cps.toList)
      rw [← ih y.cps.toList]
      rfl
  show (⟨(xs.drop 1).foldl (fun acc p => acc ++ (" " : Str).cps ++ p.cps) (xs.headD Str.empty).cps⟩ : Str).cps.toList = _
  show ((xs.drop 1).foldl (fun acc p => acc ++ (" " : Str).cps ++ p.cps) (xs.headD Str.empty).cps).toList = _
  rw [fold]
  cases xs with
  | nil => rfl
  | cons x l => exact flat x.cps.toList l
/-- words behind which something smaller or nothing stands: they are compared as words -/
theorem lt_words : ∀ {x y s t : List Nat}, (∀ c ∈ x, 32 < c) → (∀ c ∈ y, 32 < c) → (s = [] ∨ ∃ r, s = 32 :: r) → (t = [] ∨ ∃ r, t = 32 :: r) → x ≠ y → (x ++ s < y ++ t ↔ x < y)
  | [], [], _, _, _, _, _, _, ne => absurd rfl ne
  | [], b :: y, s, t, _, hy, hs, _, _ => by
    have hb := hy b List.mem_cons_self
    constructor
    · intro _
      exact List.nil_lt_cons b y
    · intro _
      rcases hs with rfl | ⟨r, rfl⟩
      · exact List.nil_lt_cons b (y ++ t)
      · exact List.cons_lt_cons_iff.mpr (.inl hb)
  | a :: x, [], s, t, hx, _, _, ht, _ => by
    have ha := hx a List.mem_cons_self
    constructor
    · intro h
      rcases ht with rfl | ⟨r, rfl⟩
      · exact absurd h (List.not_lt_nil _)
      · rcases List.cons_lt_cons_iff.mp h with z | ⟨z, _⟩ <;> omega
    · intro h
      exact absurd h (List.not_lt_nil _)
  | a :: x, b :: y, s, t, hx, hy, hs, ht, ne => by
    have ih : x ≠ y → (x ++ s < y ++ t ↔ x < y) := lt_words (fun c hc => hx c (List.mem_cons_of_mem _ hc)) (fun c hc => hy c (List.mem_cons_of_mem _ hc)) hs ht
    show a :: (x ++ s) < b :: (y ++ t) ↔ a :: x < b :: y
    rw [List.cons_lt_cons_iff, List.cons_lt_cons_iff]
    by_cases e : a = b
    · subst e
      have := ih fun z => ne (by rw [z])
      rw [this]
    · simp [e]
theorem lt_same : ∀ {x s t : List Nat}, (x ++ s < x ++ t ↔ s < t)
  | [], _, _ => Iff.rfl
  | a :: x, s, t => by
    show a :: (x ++ s) < a :: (x ++ t) ↔ s < t
    rw [List.cons_lt_cons_iff, lt_same (x := x)]
    constructor
    · rintro (h | ⟨_, h⟩)
      · omega
      · exact h
    · intro h
      exact .inr ⟨rfl, h⟩
theorem jl_cons (x : List Nat) (l : List (List Nat)) : ∃ s, jl (x :: l) = x ++ s ∧ ((l = [] ∧ s = []) ∨ (l ≠ [] ∧ s = 32 :: jl l)) := by
  cases l with
  | nil => exact ⟨[], by simp [jl], .inl ⟨rfl, rfl⟩⟩
  | cons y r => exact ⟨32 :: jl (y :: r), rfl, .inr ⟨by simp, rfl⟩⟩
/-- names as texts stand in the order of their lists of words -/
theorem name_lt : ∀ {a b : List Str}, (∀ x ∈ a, GoodWord x) → (∀ x ∈ b, GoodWord x) → b ≠ [] → a ≠ [] → decide ((Txt.join " " a).cps.toList < (Txt.join " " b).cps.toList) = ltL a b := by
  intro a
  induction a with
  | nil => intro b _ _ _ h; exact absurd rfl h
  | cons x a ih =>
    intro b ha hb hbn _
    cases b with
    | nil => exact absurd rfl hbn
    | cons y b =>
      rw [glued_jl, glued_jl, List.map_cons, List.map_cons]
      obtain ⟨s, es, hs⟩ := jl_cons x.cps.toList (a.map fun x => x.cps.toList)
      obtain ⟨t, et, ht⟩ := jl_cons y.cps.toList (b.map fun x => x.cps.toList)
      rw [es, et]
      have gx := ha x List.mem_cons_self
      have gy := hb y List.mem_cons_self
      have sx : ∀ c ∈ x.cps.toList, 32 < c := fun c hc => by have := (gx.2.2 c hc).1; omega
      have sy : ∀ c ∈ y.cps.toList, 32 < c := fun c hc => by have := (gy.2.2 c hc).1; omega
      show _ = if WkI.ltS x y = true then true else if x = y then ltL a b else false
      by_cases e : x = y
      · subst e
        rw [ltS_irrefl, if_neg Bool.false_ne_true, if_pos rfl]
        have q : decide (x.cps.toList ++ s < x.cps.toList ++ t) = decide (s < t) := decide_eq_decide.mpr lt_same
        rw [q]
        rcases hs with ⟨ea, rfl⟩ | ⟨ea, rfl⟩
        · have a0 : a = [] := by simpa using ea
          subst a0
          rcases ht with ⟨eb, rfl⟩ | ⟨eb, rfl⟩
          · have b0 : b = [] := by simpa using eb
            subst b0
            exact decide_eq_false (List.lt_irrefl _)
          · cases b with
            | nil => exact absurd rfl eb
            | cons z b => exact decide_eq_true (List.nil_lt_cons _ _)
        · have a0 : a ≠ [] := by simpa using ea
          rcases ht with ⟨eb, rfl⟩ | ⟨eb, rfl⟩
          · have b0 : b = [] := by simpa using eb
            subst b0
            have z : ltL a [] = false := by cases a <;> rfl
            rw [z]
            exact decide_eq_false (List.not_lt_nil _)
          · have b0 : b ≠ [] := by simpa using eb
            have i := ih (b := b) (fun x hx => ha x (List.mem_cons_of_mem _ hx)) (fun x hx => hb x (List.mem_cons_of_mem _ hx)) b0 a0
            rw [glued_jl, glued_jl] at i
            rw [← i]
            refine decide_eq_decide.mpr ?_
            rw [List.cons_lt_cons_iff]
            constructor
            · rintro (h | ⟨_, h⟩)
              · omega
              · exact h
            · intro h
              exact .inr ⟨rfl, h⟩
      · have ne : x.cps.toList ≠ y.cps.toList := fun z => e (by
          obtain ⟨⟨l⟩⟩ := x
          obtain ⟨⟨m⟩⟩ := y
          have z' : l = m := z
          rw [z'])
        have q : decide (x.cps.toList ++ s < y.cps.toList ++ t) = decide (x.cps.toList < y.cps.toList) := decide_eq_decide.mpr (lt_words sx sy (hs.imp (·.2) fun h => ⟨_, h.2⟩) (ht.imp (·.2) fun h => ⟨_, h.2⟩) ne)
        rw [q, if_neg e]
        show WkI.ltS x y = _
        cases WkI.ltS x y <;> rfl
end LB
set_option Elab.async false
set_option linter.all false
set_option maxRecDepth 100000
set_option maxHeartbeats 4000000
/-! A def with one default, None: what the top has written of it, how calls bind. -/
namespace LB
open PySem L2 Wk
/-- a def of the module, its last parameter with the default None -/
def DefD (K : PySem.W.Frag) (x : Str) (st : Stmt) (f : Addr) : Prop := PySem.W.nsIn K mainGlobals x = some (some (.ref f)) ∧
  (∃ (oc : Value) (od : Option Addr) (T : Addr) (kV doc pm : Value) (an : Option Addr) (cdv ct : Value) (osl : Array (Option Value)),
    K.lookup f = some ⟨oc, od, .func (PySem.W.fnOf x x (defArgs st) (defBody st) (defScope st) (.ref T) kV doc pm an cdv ct), osl⟩ ∧ PySem.W.codeIn K cdv x = true ∧ ∃ (oT : Obj) (n : Nat), K.lookup T = some oT ∧ oT.data = .seq #[.none] n) ∧ PySem.W.keepIn K (.ref f) = true
theorem DefD.fun {K : PySem.W.Frag} {x : Str} {st : Stmt} {f : Addr} (h : DefD K x st f) : ∃ fd, FunD K x x (defArgs st) (defBody st) (defScope st) [.non] [] f fd := by
  obtain ⟨_, ⟨oc, od, T, kV, doc, pm, an, cdv, ct, osl, l, c, oT, n, lT, dT⟩, kp⟩ := h
  exact ⟨_, ⟨oc, od, .ref T, kV, doc, pm, an, cdv, ct, osl, rfl, l, c, .inr ⟨by simp, T, oT, [.none], n, rfl, lT, dT, .cons rfl .nil⟩, .inl rfl⟩, kp⟩
/-- how its calls bind -/
structure Bind3 (K : PySem.W.Frag) (fd : FuncData) (ps ks : List Str) : Prop where
  b3 : Binds K fd ps []
  b2 : ∃ dn, Vals [V.non] [dn] ∧ Binds K fd ps [dn]
  kw : KBn K fd ps 0 ks (fun _ ws => [ws.getD 2 .none, ws.getD 1 .none, ws.getD 0 .none]) (fun _ zs => [zs.getD 2 .non, zs.getD 1 .non, zs.getD 0 .non])
theorem bind3 {K : PySem.W.Frag} {x : Str} {st : Stmt} {f : Addr} {fd : FuncData} {a b c : Str} (F : FunD K x x (defArgs st) (defBody st) (defScope st) [.non] [] f fd)
    (h3 : ∀ (T : Addr) (kV doc pm : Value) (an : Option Addr) (cdv ct : Value) (u v w d : Value),
      ∃ k, bindArgs (PySem.W.fnOf x x (defArgs st) (defBody st) (defScope st) (.ref T) kV doc pm an cdv ct) ⟨[u, v, w], []⟩ = seqItems? (.ref T) >>= k ∧ k (some #[d]) = pure (([a, b, c] : List Str).zip [u, v, w]))
    (h2 : ∀ (T : Addr) (kV doc pm : Value) (an : Option Addr) (cdv ct : Value) (u v d : Value),
      ∃ k, bindArgs (PySem.W.fnOf x x (defArgs st) (defBody st) (defScope st) (.ref T) kV doc pm an cdv ct) ⟨[u, v], []⟩ = seqItems? (.ref T) >>= k ∧ k (some #[d]) = pure (([a, b, c] : List Str).zip [u, v, d]))
    (hk : ∀ (T : Addr) (kV doc pm : Value) (an : Option Addr) (cdv ct : Value) (u v w d : Value),
      ∃ k, bindArgs (PySem.W.fnOf x x (defArgs st) (defBody st) (defScope st) (.ref T) kV doc pm an cdv ct) ⟨[], ([c, b, a] : List Str).zip [u, v, w]⟩ = seqItems? (.ref T) >>= k ∧ k (some #[d]) = pure (([a, b, c] : List Str).zip [w, v, u])) :
    Bind3 K fd [a, b, c] [c, b, a] := by
  refine ⟨?_, ?_, ?_⟩
  · obtain ⟨ds, r, q⟩ := F.binds1 (ps := [a, b, c]) 3 1 (by simp) rfl fun T kV doc pm an cdv ct us its h1 h4 => match us, its, h1, h4 with
      | [u, v, w], [d], _, _ => h3 T kV doc pm an cdv ct u v w d
    cases r
    exact q
  · obtain ⟨ds, r, q⟩ := F.binds1 (ps := [a, b, c]) 2 0 (by simp) rfl fun T kV doc pm an cdv ct us its h1 h4 => match us, its, h1, h4 with
      | [u, v], [d], _, _ => h2 T kV doc pm an cdv ct u v d
    cases r with
    | cons r1 r2 =>
      cases r2
      exact ⟨_, .cons r1 .nil, q⟩
  · obtain ⟨oc, od, dV, kV, doc, pm, an, cdv, ct, osl, rfl, lk, hcd, hD, hK⟩ := F.ex
    rcases hD with ⟨e, _⟩ | ⟨_, T, o, its, m, rfl, lT, oT, rT⟩
    · cases e
    · refine ⟨fun s us ws X e1 e2 => ?_, fun {vs us zs ws} r1 r2 => ?_⟩
      · match us, ws, its, e1, e2, rT, oT with
        | [], [u, v, w], [d], _, _, _, oT =>
          obtain ⟨k, q1, q2⟩ := hk T kV doc pm an cdv ct u v w d
          refine BindsTo.of_looks fun M => ?_
          rw [q1]
          exact looks_items X lT oT (.of_pure q2)
      · have at_ : ∀ j, RelV (zs.getD j .non) (ws.getD j .none) := by
          intro j
          induction r2 generalizing j with
          | nil => rfl
          | cons h _ ih =>
            cases j with
            | zero => exact h
            | succ j => exact ih j
        exact .cons (at_ 2) (.cons (at_ 1) (.cons (at_ 0) .nil))
end LB
set_option Elab.async false
set_option linter.all false
set_option maxRecDepth 100000
set_option maxHeartbeats 4000000
/-! The program's own: from what the top has written to the promises. -/
namespace LB
open PySem L2 Wk
open Bg (Bg Wo)
section
variable {P : Program} {w : World} {K : PySem.W.Frag} {mg : Str → Option Value} {base h : Heap}
theorem def1_mk {x : Str} {st : Stmt} {f : Addr} {ps : List Str} {k : Nat} {sp : Sp} (X : K.In h) (G : h.Ns mainGlobals mg) (a : DefAt K x st f)
    (b : ∀ (kV doc pm : Value) (an : Option Addr) (cdv ct : Value) (us : List Value), us.length = ps.length → bindArgs (PySem.W.fnOf x x (defArgs st) (defBody st) (defScope st) .none kV doc pm an cdv ct) ⟨us, []⟩ = pure (ps.zip us))
    (ok : ∀ fd, Fun K x x st f fd → FnOk P w K mg base CX0 k f fd ps sp) : ∃ fd, Def1 P w K mg base x k f fd ps sp := by
  obtain ⟨n, ⟨oc, od, kV, doc, pm, an, cdv, ct, osl, l, c⟩, kp⟩ := a
  have F := fun_mk (st := st) l c kp
  exact ⟨_, ok _ F, PySem.W.mg_of X G n, kp, F.binds b⟩
/-- the tuple ZERO of the top -/
def ZeroAt (K : PySem.W.Frag) (Z : Addr) : Prop := PySem.W.nsIn K mainGlobals "ZERO" = some (some (.ref Z)) ∧ ∃ (o : Obj) (a b c d : Tok) (m : Nat), K.lookup Z = some o ∧ o.cls = .type "tuple" ∧ o.data = .seq #[.int 0 a, .int 0 b, .int 1 c, .int 1 d] m
theorem zero_at {K : PySem.W.Frag} {Z : Addr} {o : Obj} {a b c d : Tok} {m : Nat} (n : PySem.W.nsIn K mainGlobals "ZERO" = some (some (.ref Z))) (l : K.lookup Z = some o) (c1 : o.cls = .type "tuple") (d1 : o.data = .seq #[.int 0 a, .int 0 b, .int 1 c, .int 1 d] m) : ZeroAt K Z := ⟨n, o, a, b, c, d, m, l, c1, d1⟩
theorem ZeroAt.tup {Z : Addr} (z : ZeroAt K Z) (H : Hp) : SqT K H Z (BgV Bg.zero) := by
  obtain ⟨_, o, a, b, c, d, m, l, c1, d1⟩ := z
  exact .inr ⟨o, _, m, l, c1, d1, by show 4 ≤ sizeLine; decide, .cons ⟨_, rfl⟩ (.cons ⟨_, rfl⟩ (.cons ⟨_, rfl⟩ (.cons ⟨_, rfl⟩ .nil)))⟩
/-- beginnings and how they go on -/
structure CoreA (P : Program) (w : World) (K : PySem.W.Frag) (mg : Str → Option Value) (base : Heap) : Prop where
  topOf : ∃ f fd, Def1 P w K mg base "top_of" 1 f fd ["table"] spTopOf
  worths : ∃ f fd, Def1 P w K mg base "worths" 1 f fd ["table"] spWorths
  vocab : ∃ f fd, Def1 P w K mg base "vocabulary" 2 f fd ["table"] spVocab
  start : ∃ f fd, Def1 P w K mg base "start" 2 f fd ["table"] (spStart K)
  fol : ∃ f fd, Def1 P w K mg base "followed" 2 f fd ["beginning", "worth"] (spFol K)
  steps : ∃ f fd, Def1 P w K mg base "steps" 3 f fd ["beginning", "words"] (spSteps K)
  count : ∃ f fd, Def1 P w K mg base "count_within" 2 f fd ["beginning", "low", "high"] (spCount K)
/-- places -/
structure CoreB (P : Program) (w : World) (K : PySem.W.Frag) (mg : Str → Option Value) (base : Heap) : Prop where
  ends : ∃ f fd, Def1 P w K mg base "ends_within" 2 f fd ["beginning", "low", "high"] (spEnds K)
  own : ∃ f fd, Def1 P w K mg base "own_number" 1 f fd ["beginning"] (spOwn K)
  placeW : ∃ f fd, Def1 P w K mg base "place_within" 4 f fd ["table", "number", "low", "high"] spPlaceW
end
end LB
set_option Elab.async false
set_option linter.all false
set_option maxRecDepth 100000
set_option maxHeartbeats 4000000
/-! The program's own on valid arguments: limit, place, number_at. -/
namespace LB
open PySem L2 Wk
open Bg (Bg Wo)
/-- a valid table -/
structure Tab (H : Hp) (t : Addr) (ones tens : List Str) (hun : Str) (scales : List Str) (o te sc : Addr) : Prop where
  tb : Tbl H t ones tens hun scales o te sc
  good : GoodRow (ones ++ (tens ++ hun :: scales))
theorem Tab.same {H H' : Hp} {t : Addr} {ones tens : List Str} {hun : Str} {scales : List Str} {o te sc : Addr} (T : Tab H t ones tens hun scales o te sc) (s : Same H H') : Tab H' t ones tens hun scales o te sc := ⟨T.tb.same s, T.good⟩
theorem Tab.voc {H : Hp} {t : Addr} {ones tens : List Str} {hun : Str} {scales : List Str} {o te sc : Addr} {ws : List (Str × Wo)} (T : Tab H t ones tens hun scales o te sc) (p : ws.Perm (voc ones tens hun scales)) (a : ascW ws) : Voc ones tens hun scales ws :=
  ⟨p, a, T.tb.l1, T.tb.l2, T.tb.nd⟩
/-- the bound: below, or all numbers -/
def bnd (W : Int) (most : V) : Int := match most with
  | .int m => m
  | _ => W
theorem _root_.L2.FunD.ok0 {P : Program} {w : World} {K : PySem.W.Frag} {mg : Str → Option Value} {base : Heap} {x qual : Str} {params : Arguments} {body : List Stmt} {scope : Scope} {dvs : List V} {kws : List (Str × V)} {f : Addr} {fd : FuncData} {N ps : List Str} {k : Nat} {sp : Sp}
    (F : FunD K x qual params body scope dvs kws f fd) (S : FnScope N ps scope) (len : ∀ vs H Q E, sp vs H Q E → vs.length = ps.length)
    (hbody : ∀ (cdv : Value) (A : Around) (outer : List Env) (s : Shared) (H : Hp) (vs : List V) (Q : VK) (E : XK), Room k (A.deeper (PyProof.Rows.envOfC qual scope s.heap.objs.size f cdv)) → sp vs H Q E →
      ∃ t, PSs (cxOf CX0 P w K mg base N qual scope f cdv A outer s H E).nox body t ∧ t { nx := fun _ H' => Q .non H', rt := Q } (L2.start N vs) H) : FnOk P w K mg base CX0 (k + 1) f fd ps sp :=
  F.ok S len fun cdv A outer s H vs Q E hr h => by
    obtain ⟨t, p, q⟩ := hbody cdv A outer s H vs Q E hr h
    exact ⟨t, p.nox, q⟩
def spLimit0 : Sp := fun vs H Q _ => ∃ (t o te sc : Addr) (ones tens : List Str) (hun : Str) (scales : List Str), vs = [.ref t] ∧ Tab H t ones tens hun scales o te sc ∧ ∀ H', Same H H' → Q (.int (Bg.W (scales.length + 1))) H'
def spBelow0 : Sp := fun vs H Q _ => ∃ (t o te sc : Addr) (ones tens : List Str) (hun : Str) (scales : List Str) (most : V), vs = [.ref t, most] ∧ Tab H t ones tens hun scales o te sc ∧
  (most = .non ∨ ∃ m : Int, most = .int m ∧ 1 ≤ m ∧ m ≤ Bg.W (scales.length + 1)) ∧ ∀ H', Same H H' → Q (.int (bnd (Bg.W (scales.length + 1)) most)) H'
def spPlace0 : Sp := fun vs H Q _ => ∃ (t o te sc : Addr) (ones tens : List Str) (hun : Str) (scales : List Str) (n : Int) (most : V), vs = [.ref t, .int n, most] ∧ Tab H t ones tens hun scales o te sc ∧
  (most = .non ∨ ∃ m : Int, most = .int m ∧ 1 ≤ m ∧ m ≤ Bg.W (scales.length + 1)) ∧ 0 ≤ n ∧ n < bnd (Bg.W (scales.length + 1)) most ∧
  ∀ H', Same H H' → Q (.int (ahead ones tens hun scales 0 (bnd (Bg.W (scales.length + 1)) most - 1) n)) H'
def spNumAt0 : Sp := fun vs H Q _ => ∃ (t o te sc : Addr) (ones tens : List Str) (hun : Str) (scales : List Str) (n : Int) (most : V), vs = [.ref t, .int n, most] ∧ Tab H t ones tens hun scales o te sc ∧
  (most = .non ∨ ∃ m : Int, most = .int m ∧ 1 ≤ m ∧ m ≤ Bg.W (scales.length + 1)) ∧ 0 ≤ n ∧ n < bnd (Bg.W (scales.length + 1)) most ∧
  ∀ r H', Same H H' → 0 ≤ r → r < bnd (Bg.W (scales.length + 1)) most → ahead ones tens hun scales 0 (bnd (Bg.W (scales.length + 1)) most - 1) r = n → Q (.int r) H'
theorem bnd_0 {W : Int} {most : V} (w : 1 ≤ W) (h : most = .non ∨ ∃ m : Int, most = .int m ∧ 1 ≤ m ∧ m ≤ W) : 1 ≤ bnd W most ∧ bnd W most ≤ W := by
  rcases h with rfl | ⟨m, rfl, h⟩
  · exact ⟨w, Int.le_refl _⟩
  · exact h
section
variable {P : Program} {w : World} {K : PySem.W.Frag} {mg : Str → Option Value} {base : Heap}
end
end LB
set_option Elab.async false
set_option linter.all false
set_option maxRecDepth 100000
set_option maxHeartbeats 4000000
/-! The program's own: following and count_names on valid arguments, with their results. -/
namespace LB
open PySem L2 Wk
open Bg (Bg Wo)
def spRead0 (K : PySem.W.Frag) : Sp := fun vs H Q _ => ∃ (t l o te sc : Addr) (ones tens : List Str) (hun : Str) (scales ws : List Str) (b : Bg), vs = [.ref t, .ref l] ∧ Tab H t ones tens hun scales o te sc ∧ H l = some (.lst (ws.map V.str)) ∧
  goF (voc ones tens hun scales) (Bg.start scales.length) ws 0 = .inl b ∧ ∀ q H', Same H H' → SqT K H' q (BgV b) → Bg.Ok b → b.m ≤ scales.length + 1 → Q (.ref q) H'
def spFlw0 (K : PySem.W.Frag) : Sp := fun vs H Q _ => ∃ (t l o te sc : Addr) (ones tens : List Str) (hun : Str) (scales ws : List Str) (b : Bg), vs = [.ref t, .ref l] ∧ Tab H t ones tens hun scales o te sc ∧ H l = some (.lst (ws.map V.str)) ∧
  goF (voc ones tens hun scales) (Bg.start scales.length) ws 0 = .inl b ∧ ∀ (T L : Addr) (us : List Str) (vz : List (Str × Wo)) (H' : Hp), Same H H' → H' T = some (.tup [.ref L, .bl (decide ((ws.length : Int) > 0))]) → H' L = some (.lst (us.map V.str)) → H L = none →
    Voc ones tens hun scales vz → us = (stepsOf b vz).map (·.1) → us.length ≤ 1000 → Bg.Ok b → b.m ≤ scales.length + 1 → Q (.ref T) H'
def spCnN0 : Sp := fun vs H Q _ => ∃ (t l o te sc : Addr) (ones tens : List Str) (hun : Str) (scales ws : List Str) (b : Bg), vs = [.ref t, .ref l] ∧ Tab H t ones tens hun scales o te sc ∧ H l = some (.lst (ws.map V.str)) ∧
  goF (voc ones tens hun scales) (Bg.start scales.length) ws 0 = .inl b ∧ ∀ (H' : Hp), Same H H' → Bg.Ok b → b.m ≤ scales.length + 1 → Q (.int (Bg.cf (Bg.fb 0 (Bg.W (scales.length + 1) - 1)) b)) H'
theorem upd_keepJ {G : Hp} {q a : Addr} {o x : HO} (e : G q = some o) (n : G a = none) : upd G a x q = some o := by
  rw [upd_ne (ne_of_none e n)]
  exact e
theorem goF_stepJ {vc : List (Str × Wo)} {b : Bg} {x : Str} {xs : List Str} {i : Nat} : goF vc b (x :: xs) i = match nextB vc b x with
    | none => .inr i
    | some c => goF vc c xs (i + 1) := rfl
section
variable {P : Program} {w : World} {K : PySem.W.Frag} {mg : Str → Option Value} {base : Heap}
theorem scRead0 : FnScope ["table", "words", "beginning", "meanings", "index", "word"] ["table", "words"] (defScope sRead) := ⟨rfl, rfl, rfl, by decide +kernel, rfl, by decide +kernel, by decide +kernel⟩
theorem ok_read0 {f fC fS fW fF : Addr} {fd dC dS dW dF : FuncData} (F : Fun K "_read" "_read" sRead f fd) (C : Def1 P w K mg base "check_table" 2 fC dC ["table"] spCheck)
    (DS : Def1 P w K mg base "start" 2 fS dS ["table"] (spStart K)) (DW : Def1 P w K mg base "worths" 1 fW dW ["table"] spWorths) (DF : Def1 P w K mg base "_followed_by" 3 fF dF ["beginning", "word", "meanings"] (spFolBy K))
    (mE : mg "enumerate" = none) : FnOk P w K mg base CX0 4 f fd ["table", "words"] (spRead0 K) := by
  refine F.ok scRead0 (fun vs H Q E h => ?_) (fun cdv A outer s H vs Q E hr h => ?_)
  · obtain ⟨t, l, o, te, sc, ones, tens, hun, scales, ws, b, rfl, _⟩ := h
    rfl
  · obtain ⟨t, l, o, te, sc, ones, tens, hun, scales, ws, bb, rfl, TB, hl, hg, k⟩ := h
    have hr2 : Room 2 _ := hr.mono (by decide)
    have hr1 : Room 1 _ := hr.mono (by decide)
    refine ⟨_, pss_cons (ps_expr (pe_call C.ok hr2 (by rfl) C.g C.k C.b .nil pass0 (pa_cons (pv 0) pa_nil)))
      (pss_cons (ps_set (i := 2) scRead0.nd rfl (.inl rfl) (pe_call DS.ok hr2 (by rfl) DS.g DS.k DS.b .nil pass0 (pa_cons (pv 0) pa_nil)))
      (pss_cons (ps_set (i := 3) scRead0.nd rfl (.inl rfl) (pe_call DW.ok hr1 (by rfl) DW.g DW.k DW.b .nil pass0 (pa_cons (pv 0) pa_nil)))
      (pss_cons (ps_for PassesOwn.never rfl (pi_enum rfl mE (pa_cons (pv 1) pa_nil)) (pg_tup (by rfl) (pgs_cons (pg_name (i := 4) scRead0.nd rfl (.inl rfl)) (pgs_cons (pg_name (i := 5) scRead0.nd rfl (.inl rfl)) pgs_nil)))
        (pss_cons (ps_set (i := 2) scRead0.nd rfl (.inl rfl) (pe_call DF.ok hr (by rfl) DF.g DF.k DF.b .nil pass0 (pa_cons (pv 2) (pa_cons (pv 5) (pa_cons (pv 3) pa_nil)))))
        (pss_one (ps_if (pt_cmp (pc_isN (pv 2))) pss_never pss_nil))))
      (pss_one (ps_ret (pv 2)))))), ?_⟩
    have l3 := TB.tb.l3
    have w1 := TB.tb.l1
    have w2 := TB.tb.l2
    have nd := TB.tb.nd
    refine ⟨_, rfl, t, o, te, sc, ones, tens, hun, scales, rfl, TB.tb.at_, w1, w2, by omega, TB.good, fun H1 s1 => ?_⟩
    have T1 := TB.same s1
    refine ⟨_, rfl, t, o, te, sc, ones, tens, hun, scales, rfl, T1.tb.at_, by omega, fun p H2 np s2 hp => ?_⟩
    have T2 := T1.same s2
    refine ⟨_, rfl, t, o, te, sc, ones, tens, hun, scales, rfl, T2.tb.at_, by omega, by omega, by omega, nd, fun d H3 nd3 s3 hd => ?_⟩
    have s13 : Same H H3 := s1.trans (s2.trans s3)
    have hw := voc_ok (hun := hun) (scales := scales) w1 w2
    generalize voc ones tens hun scales = vc at hg hd hw
    refine ⟨_, rfl, l, _, rfl, SqL.of (s13 _ _ hl), ?_⟩
    refine for_it (walk_enum (K := K) (a := l) (xs := ws.map V.str)) (fun i τ G => ∃ (q : Addr) (b : Bg) (x y : Option V), τ = [some (.ref t), some (.ref l), some (.ref q), some (.ref d), x, y] ∧ Same H3 G ∧ SqT K G q (BgV b) ∧ Bg.Ok b ∧ b.m ≤ scales.length + 1 ∧
      goF vc b (ws.drop i) i = .inl bb) ⟨p, _, none, none, rfl, fun _ _ z => z, s3.tp hp, Bg.start_ok _, Nat.le_refl _, hg⟩ ?_ ?_ ?_
    · rintro i τ G _ ⟨q, b, x, y, rfl, s4, _⟩
      exact SqL.of (s4 _ _ (s13 _ _ hl))
    · rintro i xx τ G G' hi ⟨q, b, x0, y0, rfl, s4, hq, ok, bm, e⟩ ⟨T, y1, y2, rfl, nT, rfl, hy1, hy2⟩
      cases hy1
      obtain ⟨x, hx, rfl⟩ := str_at (show (ws.map V.str)[i]? = some y2 from hy2)
      have sT := same_new (x := .tup [.int (i : Nat), .str x]) nT
      have s5 := s4.trans sT
      have dr : ws.drop i = x :: ws.drop (i + 1) := by
        obtain ⟨h, e'⟩ := List.getElem?_eq_some_iff.mp hx
        rw [List.drop_eq_getElem_cons h, e']
      rw [dr, goF_stepJ] at e
      refine ⟨T, _, rfl, SqT.of upd_same, rfl, _, _, rfl, _, _, rfl, rfl, ?_⟩
      refine ⟨_, rfl, _, rfl, _, rfl, q, d, b, x, vc, rfl, sT.tp hq, ok, s5 _ _ hd, hw, fun no G2 s6 => ?_, fun c hc q' G2 s6 hq' => ?_⟩
      · rw [no] at e
        cases e
      · rw [hc] at e
        obtain ⟨okc, cm⟩ := next_ok hw ok hc
        refine ⟨_, rfl, _, rfl, ite2 (fun z => absurd (of_decide_eq_true z) (by simp)) (fun _ => ?_)⟩
        exact ⟨q', c, _, _, rfl, s5.trans s6, hq', okc, Nat.le_trans cm bm, e⟩
    · rintro τ G ⟨q, b, x, y, rfl, s4, hq, ok, bm, e⟩
      rw [List.length_map, List.drop_length] at e
      cases e
      exact ⟨_, rfl, k q G (s13.trans s4) hq ok bm⟩
theorem scFlw0 : FnScope ["table", "words", "beginning", "nexts", "word", "_"] ["table", "words"] (defScope sFollowing) := ⟨rfl, rfl, rfl, by decide +kernel, rfl, by decide +kernel, by decide +kernel⟩
theorem ok_flw0 {f fR fV fT : Addr} {fd dR dV dT : FuncData} (F : Fun K "following" "following" sFollowing f fd) (R : Def1 P w K mg base "_read" 4 fR dR ["table", "words"] (spRead0 K))
    (DV : Def1 P w K mg base "vocabulary" 2 fV dV ["table"] spVocab) (DT : Def1 P w K mg base "steps" 3 fT dT ["beginning", "words"] (spSteps K)) (mL : mg "len" = none) : FnOk P w K mg base CX0 5 f fd ["table", "words"] (spFlw0 K) := by
  refine F.ok scFlw0 (fun vs H Q E h => ?_) (fun cdv A outer s H vs Q E hr h => ?_)
  · obtain ⟨t, l, o, te, sc, ones, tens, hun, scales, ws, b, rfl, _⟩ := h
    rfl
  · obtain ⟨t, l, o, te, sc, ones, tens, hun, scales, ws, b, rfl, TB, hl, hg, k⟩ := h
    have hr3 : Room 3 _ := hr.mono (by decide)
    have hr2 : Room 2 _ := hr.mono (by decide)
    refine ⟨_, pss_cons (ps_set (i := 2) scFlw0.nd rfl (.inl rfl) (pe_call R.ok hr (by rfl) R.g R.k R.b .nil pass0 (pa_cons (pv 0) (pa_cons (pv 1) pa_nil))))
      (pss_mid (ps_setLc (i := 3) (own := [("word", 4), ("_", 5)]) (g := gTup K 2 (gCons (gName 4) (gCons (gName 5) gNil))) (tt := tYes) (by rfl) scFlw0.nd rfl rfl (sw_true rfl rfl rfl (by decide +kernel))
        (pi_list (pe_call DT.ok hr3 (by rfl) DT.g DT.k DT.b .nil pass0 (pa_cons (pv 2) (pa_cons (pe_call DV.ok hr2 (by rfl) DV.g DV.k DV.b .nil pass0 (pa_cons (pv 0) pa_nil)) pa_nil))))
        (blkOk_by (own := [("word", 4), ("_", 5)]) (N := ["table", "words", "beginning", "nexts", "word", "_"]) (sc := defScope sFollowing) (by decide +kernel))
        (fun _ _ _ _ _ => pg_tup (by rfl) (pgs_cons (pg_name (i := 4) scFlw0.nd rfl (Or.inl rfl)) (pgs_cons (pg_name (i := 5) scFlw0.nd rfl (Or.inl rfl)) pgs_nil))) (fun _ _ _ _ _ => pts_nil) (fun _ _ _ _ _ => pv 4))
      (pss_one (ps_ret (pe_tup (pa_cons (pv 3) (pa_cons (pe_cmpR op_gt (pe_callB call_len_seq (by rfl) mL PySem.boot_len (pa_cons (pv 1) pa_nil)) pe_int (nomark _)) pa_nil)))))), ?_⟩
    have l3 := TB.tb.l3
    have w1 := TB.tb.l1
    have w2 := TB.tb.l2
    have nd := TB.tb.nd
    refine ⟨_, rfl, _, rfl, t, l, o, te, sc, ones, tens, hun, scales, ws, b, rfl, TB, hl, hg, fun q H1 s1 hq ok bm => ?_⟩
    have T1 := TB.same s1
    refine ⟨fun τ G => ∃ (L : Addr) (us : List Str) (vz : List (Str × Wo)) (x y : Option V), τ = [some (.ref t), some (.ref l), some (.ref q), some (.ref L), x, y] ∧ Same H G ∧ G L = some (.lst (us.map V.str)) ∧ H L = none ∧ us.length ≤ 1000 ∧ Voc ones tens hun scales vz ∧ us = (stepsOf b vz).map (·.1), ?_, ?_⟩
    · refine ⟨_, rfl, _, rfl, t, o, te, sc, ones, tens, hun, scales, rfl, T1.tb.at_, by omega, by omega, by omega, nd, fun lv vz H2 nl s2 hv _ hperm hasc => ?_⟩
      have lvz : vz.length ≤ 1000 := by
        have := hperm.length_eq
        rw [List.length_map, voc_len] at this
        omega
      have wok : ∀ z ∈ vz, Bg.WOk z.2.2 := fun z hz => voc_ok w1 w2 z.2 (hperm.mem_iff.mp (List.mem_map.mpr ⟨z, hz, rfl⟩))
      refine ⟨q, b, lv, vz, rfl, s2.tp hq, ok, hv, lvz, wok, fun u cs H3 nu s3 hst ec => ?_⟩
      have cl : cs.length ≤ 1000 := by
        have h1 := congrArg List.length ec
        rw [List.length_map] at h1
        have h2 : (stepsOf b (vz.map (·.2))).length ≤ (vz.map (·.2)).length := List.length_filterMap_le ..
        rw [List.length_map] at h2
        omega
      refine ⟨u, rfl, ⟨_, SqL.of hst.1⟩, fun D nD => lc_it (walk_list (K := K) (a := u) (xs := cs.map fun c => V.ref c.1)) (fun i G => G D = some (.lst (((cs.take i).map fun c => c.2.1).map V.str)) ∧ Same H3 G) ?_ ?_ ?_ ?_⟩
      · exact ⟨upd_same, same_new nD⟩
      · rintro i G _ ⟨_, h2⟩
        exact SqL.of (h2 _ _ hst.1)
      · rintro i x G G' hil ⟨h1, h2⟩ ⟨rfl, hx⟩
        obtain ⟨c, hc, rfl⟩ := cs_get hx
        obtain ⟨c1, c2⟩ := hst.2 c (List.mem_of_getElem? hc)
        have il : i < cs.length := by
          rw [List.length_map] at hil
          exact hil
        refine ⟨c.1, _, rfl, SqT.of (h2 _ _ c1), rfl, _, _, rfl, _, _, rfl, rfl, rfl, _, rfl, _, h1, ?_, ?_, fun q' o' e' => ?_⟩
        · rw [List.length_map, List.length_map, List.length_take]
          exact Nat.lt_of_lt_of_le (show min i cs.length < 1001 by omega) (by decide)
        · rw [upd_same, List.take_add_one, hc, List.map_append, List.map_append]
          rfl
        · rw [upd_ne (ne_of_none e' nD)]
          exact h2 _ _ e'
      · rintro G ⟨h1, h2⟩
        rw [List.length_map, List.take_length] at h1
        have e2 : cs.map (fun c => c.2.1) = (stepsOf b (vz.map (·.2))).map (·.1) := by
          rw [← ec, List.map_map]
          rfl
        have s03 := s1.trans (s2.trans s3)
        have nDH : H D = none := by
          cases e : H D with
          | none => rfl
          | some x =>
            rw [s03 _ _ e] at nD
            cases nD
        exact ⟨D, _, vz.map (·.2), _, _, rfl, s03.trans h2, h1, nDH, by rw [List.length_map]; exact cl, ⟨hperm, hasc, w1, w2, nd⟩, e2⟩
    rintro τ G ⟨L, us, vz, x, y, rfl, s2, hL, nL, ul, V, hus⟩
    refine ⟨_, rfl, _, rfl, l, _, rfl, .inl (SqL.of (s2 _ _ hl)), _, _, rfl, rfl, by show 2 ≤ sizeLine; decide, fun T nT => ?_⟩
    refine k T L us vz _ (s2.trans (same_new nT)) ?_ (upd_keepJ hL nT) nL V hus ul ok bm
    rw [upd_same, List.length_map]
end
end LB
set_option Elab.async false
set_option linter.all false
set_option maxRecDepth 100000
set_option maxHeartbeats 4000000
/-! Family B: the law's own names and numbers. -/
namespace LB
open PySem L2 Wk
open Bg (Bg Wo)
theorem wds_dp {K : PySem.W.Frag} {H : Hp} : ∀ l : List Str, DpAll K H (l.map V.str) (l.map PyData.str)
  | [] => .nil
  | x :: l => .cons (.str x) (wds_dp l)
theorem wds_lay : ∀ l : List Str, (∀ x ∈ l, ∀ c ∈ x.cps.toList, c < 128) → PyData.canLayAll0 (l.map PyData.str) = true ∧ PyData.depthAll (l.map PyData.str) ≤ 1
  | [], _ => ⟨rfl, by decide⟩
  | x :: l, h => by
    obtain ⟨a, b⟩ := wds_lay l fun y hy => h y (List.mem_cons_of_mem _ hy)
    have hc := h x List.mem_cons_self
    refine ⟨?_, ?_⟩
    · rw [List.map_cons, PyData.canLayAll0, a, Bool.and_true, PyData.canLay0]
      unfold PyData.strOk
      rw [Array.all_eq_true_iff_forall_mem]
      intro c hm
      have := hc c (Array.mem_toList_iff.mpr hm)
      exact decide_eq_true (by omega)
    · rw [List.map_cons, PyData.depthAll, PyData.depth]
      omega
theorem wds_shaped {l : List Str} (h : ∀ x ∈ l, ∀ c ∈ x.cps.toList, c < 128) : SeqAt.shaped (.list (l.map PyData.str)) = true := by
  obtain ⟨a, b⟩ := wds_lay l h
  unfold SeqAt.shaped
  rw [PyData.canLay0, a, PyData.depth]
  simp
  omega
theorem wds_eqv (l : List Str) : PyData.eqv (.list (l.map PyData.str)) (.list []) = l.isEmpty := by
  cases l with
  | nil => rfl
  | cons c l => rfl
theorem wd_mem {ones tens : List Str} {hun : Str} {scales : List Str} (x : Wo) : wd ones tens hun scales x ∈ ones ++ (tens ++ hun :: scales) := by
  have hh : hun ∈ ones ++ (tens ++ hun :: scales) := List.mem_append_right _ (List.mem_append_right _ List.mem_cons_self)
  have get : ∀ {l : List Str} {i : Nat}, (∀ y ∈ l, y ∈ ones ++ (tens ++ hun :: scales)) → (l[i]?).getD hun ∈ ones ++ (tens ++ hun :: scales) := by
    intro l i h
    cases q : l[i]? with
    | none => exact hh
    | some y => exact h y (List.mem_of_getElem? q)
  unfold wd
  cases x with
  | low n =>
    simp only
    split
    · exact get fun y hy => List.mem_append_left _ hy
    · exact get fun y hy => List.mem_append_right _ (List.mem_append_left _ hy)
  | hun => exact hh
  | sc i => exact get fun y hy => List.mem_append_right _ (List.mem_append_right _ (List.mem_cons_of_mem _ hy))
theorem names_low {ones tens : List Str} {hun : Str} {scales : List Str} (good : GoodRow (ones ++ (tens ++ hun :: scales))) (A : List Wo) : ∀ x ∈ A.map (wd ones tens hun scales), ∀ c ∈ x.cps.toList, c < 128 := by
  intro x hx c hc
  obtain ⟨y, _, rfl⟩ := List.mem_map.mp hx
  have := (good.ok _ (wd_mem y)).2.2 c hc
  omega
def spSpelt : Sp := fun vs H Q _ => ∃ (t o te sc : Addr) (ones tens : List Str) (hun : Str) (scales : List Str) (n : Int), vs = [.ref t, .int n] ∧ Tab H t ones tens hun scales o te sc ∧ 0 ≤ n ∧ n < Bg.W (scales.length + 1) ∧
  ∀ p H', H p = none → Same H H' → H' p = some (.lst ((nmL ones tens hun scales n).map V.str)) → Q (.ref p) H'
theorem partW_split (n : Int) (j : Nat) : Bg.partW n j = Bg.groupW (Bg.gr n j) ++ (if (Bg.groupW (Bg.gr n j)).isEmpty = false ∧ j > 0 then [.sc (j - 1)] else []) := by
  have gb := Bg.gr_bnd n j
  unfold Bg.partW
  by_cases c : Bg.gr n j > 0
  · rw [if_pos c]
    have ne : (Bg.groupW (Bg.gr n j)).isEmpty = false := by
      unfold Bg.groupW
      by_cases c1 : Bg.gr n j / 100 > 0
      · rw [if_pos c1]
        rfl
      · rw [if_neg c1]
        by_cases c2 : Bg.gr n j % 100 ≥ 20
        · rw [if_pos c2]
          rfl
        · rw [if_neg c2, if_pos (by omega)]
          rfl
    by_cases d : j > 0
    · rw [if_pos d, if_pos ⟨ne, d⟩]
    · rw [if_neg d, if_neg (by omega)]
  · have z : Bg.gr n j = 0 := by omega
    rw [if_neg c, z]
    rfl
section
variable {P : Program} {w : World} {K : PySem.W.Frag} {mg : Str → Option Value} {base : Heap}
theorem scSpelt : FnScope ["sheet", "number_here", "ones", "tens", "hundred", "scales", "found", "step", "group", "words_here"] ["sheet", "number_here"] (defScope sSpelt) := ⟨rfl, rfl, rfl, by decide +kernel, rfl, by decide +kernel, by decide +kernel⟩
theorem ok_spelt {f : Addr} {fd : FuncData} (F : Fun K "_law_spelt" "_law_spelt" sSpelt f fd) : FnOk P w K mg base CX0 1 f fd ["sheet", "number_here"] spSpelt := by
  refine F.ok scSpelt (fun vs H Q E h => ?_) (fun cdv A outer s H vs Q E hr h => ?_)
  · obtain ⟨t, o, te, sc, ones, tens, hun, scales, n, rfl, _⟩ := h
    rfl
  · obtain ⟨t, o, te, sc, ones, tens, hun, scales, n, rfl, TB, n0, n1, k⟩ := h
    have l1 := TB.tb.l1
    have l2 := TB.tb.l2
    have l3 := TB.tb.l3
    have TA := TB.tb.at_
    refine ⟨_, pss_cons (ps_asg (pv 0) (pg_tup (by rfl) (pgs_cons (pg_name (i := 2) scSpelt.nd rfl (.inl rfl)) (pgs_cons (pg_name (i := 3) scSpelt.nd rfl (.inl rfl)) (pgs_cons (pg_name (i := 4) scSpelt.nd rfl (.inl rfl)) (pgs_cons (pg_name (i := 5) scSpelt.nd rfl (.inl rfl)) pgs_nil))))))
      (pss_cons (ps_if (pt_cmpR op_eq (pv 1) pe_int (nomark _)) (pss_one (ps_ret (pe_lst (pa_cons (pe_ix ix_list (pv 2) pe_int (fun _ _ => rfl)) pa_nil)))) pss_nil)
      (pss_cons (ps_par (i := 6) (j := 7) (by rfl) scSpelt.nd rfl rfl (by decide) rfl rfl (pa_cons (pe_lst pa_nil) (pa_cons pe_int pa_nil)) (by rfl))
      (pss_cons (ps_while PassesOwn.never (pt_cmpR op_gt (pv 1) pe_int (nomark _))
        (pss_cons (ps_par (i := 8) (j := 9) (by rfl) scSpelt.nd rfl rfl (by decide) rfl rfl (pa_cons (pe_op op_mod (pv 1) pe_int) (pa_cons (pe_lst pa_nil) pa_nil)) (by rfl))
        (pss_mid (ps_if (pt_cmpR op_gt (pv 8) pe_int (nomark _)) (pss_one (ps_set (i := 9) scSpelt.nd rfl (.inl rfl) (pe_lst (pa_cons (pe_ix ix_list (pv 2) (pe_op op_fdiv (pv 8) pe_int) (fun _ _ => rfl)) (pa_cons (pv 4) pa_nil))))) pss_nil)
        (pss_mid (ps_if (pt_cmpR op_gt (pe_op op_mod (pv 8) pe_int) pe_int (nomark _))
          (pss_cons (ps_expr (pe_bm PySem.F.plainAttrs_list PySem.F.slot_list_append PySem.F.type_list_append mt_append (pv 9) (pa_cons (pe_ix ix_list (pv 3) (pe_op op_sub (pe_op op_fdiv (pe_op op_mod (pv 8) pe_int) pe_int) pe_int) (fun _ _ => rfl)) pa_nil)))
          (pss_one (ps_set (i := 8) scSpelt.nd rfl (.inl rfl) (pe_op op_mod (pv 8) pe_int)))) pss_nil)
        (pss_mid (ps_if (pt_cmpR op_gt (pe_op op_mod (pv 8) pe_int) pe_int (nomark _))
          (pss_one (ps_expr (pe_bm PySem.F.plainAttrs_list PySem.F.slot_list_append PySem.F.type_list_append mt_append (pv 9) (pa_cons (pe_ix ix_list (pv 2) (pe_op op_mod (pv 8) pe_int) (fun _ _ => rfl)) pa_nil)))) pss_nil)
        (pss_mid (ps_if (PW.pt (pw_and (pt_cmpR (op_neD hr.units) (pv 9) (pe_lst pa_nil) (nomark _)) (pw_and1 (pt_cmpR op_gt (pv 7) pe_int (nomark _)))))
          (pss_one (ps_expr (pe_bm PySem.F.plainAttrs_list PySem.F.slot_list_append PySem.F.type_list_append mt_append (pv 9) (pa_cons (pe_ix ix_list (pv 5) (pe_op op_sub (pv 7) pe_int) (fun _ _ => rfl)) pa_nil)))) pss_nil)
        (pss_one (ps_par3 (i := 6) (j := 7) (l := 1) (by rfl) scSpelt.nd rfl rfl rfl (by decide) (by decide) (by decide) rfl rfl rfl (pa_cons (pe_op op_cat (pv 9) (pv 6)) (pa_cons (pe_op op_add (pv 7) pe_int) (pa_cons (pe_op op_fdiv (pv 1) pe_int) pa_nil))) (by rfl)))))))))
      (pss_one (ps_ret (pv 6)))))), ?_⟩
    refine ⟨_, rfl, t, _, rfl, SqT.of TA.tup, rfl, _, _, rfl, _, _, rfl, _, _, rfl, _, _, rfl, rfl, ?_⟩
    have big : 1000 < sizeLine := by decide
    refine ⟨_, rfl, rfl, _, rfl, ite2 (fun c => ?_) (fun c => ?_)⟩
    · have e : n = 0 := V.int.inj (of_decide_eq_true c)
      refine ⟨_, rfl, o, _, _, _, rfl, rfl, SqL.of TA.lo, wd_one (tens := tens) (hun := hun) (scales := scales) l1 (Int.le_refl 0) (by decide), by show 1 ≤ sizeLine; omega, fun p np => k p _ np (same_new np) ?_⟩
      rw [upd_same, e]
      rfl
    have hn : n ≠ 0 := fun z => c (decide_eq_true (by rw [z]))
    refine ⟨Nat.zero_le _, fun p0 np0 => ⟨_, _, rfl, ?_⟩⟩
    have low := fun A : List Wo => names_low (ones := ones) (tens := tens) (hun := hun) (scales := scales) TB.good A
    generalize hw : wd ones tens hun scales = f at low
    have f1 : ∀ {n : Int}, 0 ≤ n → n < 20 → atI (ones.map V.str) n = some (.str (f (.low n))) := fun h0 h1 => by rw [← hw]; exact wd_one l1 h0 h1
    have f2 : ∀ {k : Int}, 2 ≤ k → k ≤ 9 → atI (tens.map V.str) (k - 2) = some (.str (f (.low (10 * k)))) := fun h0 h1 => by rw [← hw]; exact wd_ten l2 h0 h1
    have f3 : hun = f .hun := by rw [← hw]; rfl
    have f4 : ∀ {i : Nat}, i < scales.length → atI (scales.map V.str) (i : Int) = some (.str (f (.sc i))) := fun h => by rw [← hw]; exact wd_sc h
    refine while_by (fun σ G => ∃ (j : Nat) (p : Addr) (x y : Option V), σ = [some (.ref t), some (.int (n / Bg.W j)), some (.ref o), some (.ref te), some (.str hun), some (.ref sc), some (.ref p), some (.int (j : Int)), x, y] ∧
      Same H G ∧ H p = none ∧ G p = some (.lst (((Bg.spW n j).map f).map V.str)) ∧ j ≤ scales.length + 1) (fun σ _ => match σ with | [_, some (.int x), _, _, _, _, _, _, _, _] => x.toNat | _ => 0) ⟨0, p0, none, none, ?_, same_new np0, np0, upd_same, Nat.zero_le _⟩ ?_ ?_
    · rw [show Bg.W 0 = 1 from rfl, Int.ediv_one]
      rfl
    · rintro σ G ⟨j, p, x, y, rfl, s1, np, hp, jk⟩
      refine ⟨_, rfl, _, _, rfl, rfl, _, rfl, ite2 (fun c => ?_) (fun c => ?_)⟩
      · have pos : n / Bg.W j > 0 := of_decide_eq_true c
        have wn : Bg.W j ≤ n := by
          rcases Int.lt_or_le n (Bg.W j) with z | z
          · rw [Int.ediv_eq_zero_of_lt n0 z] at pos
            omega
          · exact z
        have jk' : j < scales.length + 1 := Bg.W_inj.mp (Int.lt_of_le_of_lt wn n1)
        obtain ⟨g0, g9⟩ := Bg.gr_bnd n j
        -- the group's words so far, in a list of their own
        refine ⟨_, rfl, _, _, rfl, rfl, (by show (0 : Int) < 1000; decide), Nat.zero_le _, fun q0 nq0 => ⟨_, _, rfl, ?_⟩⟩
        obtain ⟨g, hg⟩ : ∃ g, Bg.gr n j = g := ⟨_, rfl⟩
        have hg' : n / Bg.W j % 1000 = g := hg
        rw [hg] at g0 g9
        let St : List Wo → Int → L2.St → Hp → Prop := fun A e τ G2 => ∃ q : Addr, τ = [some (.ref t), some (.int (n / Bg.W j)), some (.ref o), some (.ref te), some (.str hun), some (.ref sc), some (.ref p), some (.int (j : Int)), some (.int e), some (.ref q)] ∧ Same G G2 ∧ G q = none ∧ G2 q = some (.lst ((A.map f).map V.str))
        have put : ∀ {A : List Wo} {G2 : Hp} {q : Addr} {x : Wo}, G q = none → G2 q = some (.lst ((A.map f).map V.str)) → Same G G2 → Same G (upd G2 q (.lst ((A.map f).map V.str ++ [.str (f x)]))) ∧ upd G2 q (.lst ((A.map f).map V.str ++ [.str (f x)])) q = some (.lst (((A ++ [x]).map f).map V.str)) := fun {A G2 q x} nq h s => by
          refine ⟨fun b o e => ?_, ?_⟩
          · rw [upd_ne (ne_of_none e nq)]
            exact s _ _ e
          · rw [upd_same, List.map_append, List.map_append]
            rfl
        refine ⟨St (if g / 100 > 0 then [.low (g / 100), .hun] else []) g, ?_, ?_⟩
        · refine ⟨_, rfl, _, _, rfl, rfl, _, rfl, ite2 (fun c1 => ?_) (fun c1 => ?_)⟩
          · have c1' : g > 99 := hg ▸ (of_decide_eq_true c1 : n / Bg.W j % 1000 > 99)
            have i1 : atI (ones.map V.str) (n / Bg.W j % 1000 / 100) = some (.str (f (.low (g / 100)))) := by rw [hg']; exact f1 (by omega) (by omega)
            have s2 : Same G (upd G q0 (.lst [])) := same_new nq0
            refine ⟨_, rfl, _, rfl, _, _, rfl, rfl, ⟨by decide, by decide⟩, o, _, _, _, rfl, rfl, SqL.of (s2 _ _ (s1 _ _ TA.lo)), i1, _, rfl, by show 2 ≤ sizeLine; omega, fun q1 nq1 => ?_⟩
            refine ⟨q1, by rw [← hg']; rfl, s2.trans (same_new nq1), s2.free nq1, ?_⟩
            rw [upd_same, if_pos (by omega), f3]
            rfl
          · have c1' : ¬ g > 99 := fun z => c1 (decide_eq_true (by rw [hg']; exact z))
            refine ⟨q0, by rw [← hg']; rfl, same_new nq0, nq0, ?_⟩
            rw [upd_same, if_neg (by omega)]
            rfl
        rintro τ G2 ⟨q, rfl, s2, nq, hq⟩
        refine ⟨St ((if g / 100 > 0 then [.low (g / 100), .hun] else []) ++ (if g % 100 ≥ 20 then [.low (10 * (g % 100 / 10))] else [])) (if g % 100 ≥ 20 then g % 10 else g), ?_, ?_⟩
        · refine ⟨_, rfl, _, _, rfl, rfl, (by show (0 : Int) < 100; decide), _, _, rfl, rfl, _, rfl, ite2 (fun c1 => ?_) (fun c1 => ?_)⟩
          · have c1' : g % 100 ≥ 20 := by have z : g % 100 > 19 := of_decide_eq_true c1; omega
            obtain ⟨p1, p2⟩ := put (x := .low (10 * (g % 100 / 10))) nq hq s2
            refine ⟨_, rfl, .inl ⟨rfl, _, SqL.of hq⟩, _, rfl, _, rfl, _, _, rfl, rfl, (by show (0 : Int) < 100; decide), _, _, rfl, rfl, ⟨by decide, by decide⟩, _, _, rfl, rfl, te, _, _, _, rfl, rfl, SqL.of (s2 _ _ (s1 _ _ TA.lt)), f2 (by omega) (by omega), q, _, _, rfl, rfl, hq, ?_, ?_⟩
            · rw [List.length_map, List.length_map]
              split <;> (show _ < sizeLine; simp; omega)
            · refine ⟨_, rfl, _, _, rfl, rfl, (by show (0 : Int) < 10; decide), q, ?_, p1, nq, ?_⟩
              · rw [if_pos c1']
                rfl
              · rw [if_pos c1']
                exact p2
          · have c1' : ¬ g % 100 ≥ 20 := fun z => c1 (decide_eq_true (by omega))
            refine ⟨q, ?_, s2, nq, ?_⟩
            · rw [if_neg c1']
            · rw [if_neg c1', List.append_nil]
              exact hq
        rintro τ G3 ⟨q, rfl, s2, nq, hq⟩
        have e1 : (if g % 100 ≥ 20 then g % 10 else g) % 100 = if g % 100 ≥ 20 then g % 100 % 10 else g % 100 := by split <;> omega
        have whole : Bg.groupW g = ((if g / 100 > 0 then [.low (g / 100), .hun] else []) ++ (if g % 100 ≥ 20 then [.low (10 * (g % 100 / 10))] else [])) ++ (if (if g % 100 ≥ 20 then g % 100 % 10 else g % 100) > 0 then [.low (if g % 100 ≥ 20 then g % 100 % 10 else g % 100)] else []) := by
          unfold Bg.groupW
          rw [List.append_assoc]
          congr 1
          by_cases z : g % 100 ≥ 20
          · rw [if_pos z, if_pos z, if_pos z]
            rfl
          · rw [if_neg z, if_neg z, if_neg z]
            rfl
        refine ⟨St (Bg.groupW g) (if g % 100 ≥ 20 then g % 10 else g), ?_, ?_⟩
        · refine ⟨_, rfl, _, _, rfl, rfl, (by show (0 : Int) < 100; decide), _, _, rfl, rfl, _, rfl, ?_⟩
          rw [e1]
          generalize he : (if g % 100 ≥ 20 then g % 100 % 10 else g % 100) = e at whole
          have eb : 0 ≤ e ∧ e < 20 := by
            rw [← he]
            split <;> omega
          refine ite2 (fun c1 => ?_) (fun c1 => ?_)
          · have c1' : e > 0 := of_decide_eq_true c1
            obtain ⟨p1, p2⟩ := put (x := .low e) nq hq s2
            refine ⟨_, rfl, .inl ⟨rfl, _, SqL.of hq⟩, _, rfl, _, rfl, _, _, rfl, rfl, (by show (0 : Int) < 100; decide), o, _, _, _, rfl, rfl, SqL.of (s2 _ _ (s1 _ _ TA.lo)), by rw [e1, he]; exact f1 eb.1 eb.2, q, _, _, rfl, rfl, hq, ?_, q, rfl, p1, nq, ?_⟩
            · rw [List.length_map, List.length_map, List.length_append]
              have a1 : (if g / 100 > 0 then [Wo.low (g / 100), Wo.hun] else []).length ≤ 2 := by split <;> simp
              have a2 : (if g % 100 ≥ 20 then [Wo.low (10 * (g % 100 / 10))] else []).length ≤ 1 := by split <;> simp
              omega
            · rw [whole, if_pos c1']
              exact p2
          · have c1' : ¬ e > 0 := fun z => c1 (decide_eq_true z)
            refine ⟨q, rfl, s2, nq, ?_⟩
            rw [whole, if_neg c1', List.append_nil]
            exact hq
        rintro τ G4 ⟨q, rfl, s2, nq, hq⟩
        have lg := @Bg.groupW_len g
        have pw : Bg.partW n j = Bg.groupW g ++ (if (Bg.groupW g).isEmpty = false ∧ j > 0 then [.sc (j - 1)] else []) := by rw [partW_split, hg]
        refine ⟨St (Bg.partW n j) (if g % 100 ≥ 20 then g % 10 else g), ?_, ?_⟩
        · refine ⟨_, rfl, Nat.zero_le _, fun r nr => ?_⟩
          have s3 : Same G4 (upd G4 r (.lst [])) := same_new nr
          have s23 := s2.trans s3
          have hq3 := s3 _ _ hq
          refine ⟨_, _, .lst (SqL.of hq3) (wds_dp _), .lst (SqL.of upd_same) .nil, wds_shaped (low _), by decide, ?_⟩
          rw [wds_eqv]
          refine ⟨_, rfl, ?_⟩
          cases hE : (Bg.groupW g).isEmpty with
          | true =>
            have e0 : ((Bg.groupW g).map f).isEmpty = true := by rw [List.isEmpty_iff] at hE ⊢; rw [hE]; rfl
            rw [e0]
            refine iteF ⟨q, rfl, s23, nq, ?_⟩
            rw [pw, hE, if_neg (by simp), List.append_nil]
            exact hq3
          | false =>
            have e0 : ((Bg.groupW g).map f).isEmpty = false := by
              cases hh : Bg.groupW g with
              | nil =>
                rw [hh] at hE
                cases hE
              | cons a l => rfl
            rw [e0]
            refine iteT ⟨_, rfl, _, _, rfl, rfl, _, rfl, ite2 (fun c1 => ?_) (fun c1 => ?_)⟩
            · have c1' : (j : Int) > 0 := of_decide_eq_true c1
              have em : (j : Int) - 1 = ((j - 1 : Nat) : Int) := by omega
              obtain ⟨p1, p2⟩ := put (x := .sc (j - 1)) nq hq3 s23
              refine ⟨_, rfl, .inl ⟨rfl, _, SqL.of hq3⟩, _, rfl, _, rfl, _, _, rfl, rfl, sc, _, _, _, rfl, rfl, SqL.of (s23 _ _ (s1 _ _ TA.ls)), by rw [em]; exact f4 (by omega), q, _, _, rfl, rfl, hq3, by rw [List.length_map, List.length_map]; omega, q, rfl, p1, nq, ?_⟩
              rw [pw, if_pos ⟨hE, by omega⟩]
              exact p2
            · have c1' : ¬ (j : Int) > 0 := fun z => c1 (decide_eq_true z)
              refine ⟨q, rfl, s23, nq, ?_⟩
              rw [pw, if_neg (by omega), List.append_nil]
              exact hq3
        rintro τ G5 ⟨q, rfl, s2, nq, hq⟩
        have lp := Bg.partW_len n j
        have ls : ∀ i, (Bg.spW n i).length ≤ 5 * i := by
          intro i
          induction i with
          | zero => exact Nat.le_refl _
          | succ i ih =>
            show (Bg.partW n i ++ Bg.spW n i).length ≤ _
            rw [List.length_append]
            have := Bg.partW_len n i
            omega
        have lsj := ls j
        refine ⟨_, rfl, _, rfl, q, p, _, _, rfl, rfl, hq, s2 _ _ hp, by rw [List.length_map, List.length_map, List.length_map, List.length_map]; omega, fun u nu => ?_⟩
        have s4 : Same G5 (upd G5 u (.lst (((Bg.partW n j).map f).map V.str ++ ((Bg.spW n j).map f).map V.str))) := same_new nu
        refine ⟨_, rfl, _, _, rfl, rfl, _, rfl, _, _, rfl, rfl, ⟨by decide, by decide⟩, _, _, _, rfl, ⟨j + 1, u, some (.int (if g % 100 ≥ 20 then g % 10 else g)), some (.ref q), ?_, s1.trans (s2.trans s4), s1.free (s2.free nu), ?_, jk'⟩, ?_⟩
        · rw [← Bg.div_succ]
          rfl
        · rw [upd_same, ← List.map_append, ← List.map_append]
          rfl
        · show (n / Bg.W j / 1000).toNat < (n / Bg.W j).toNat
          omega
      · have zero : ¬ n / Bg.W j > 0 := fun z => c (decide_eq_true z)
        have lt : n < Bg.W j := by
          rcases Int.lt_or_le n (Bg.W j) with z | z
          · exact z
          · have : 1 ≤ n / Bg.W j := (Int.le_ediv_iff_mul_le (Bg.W_pos j)).mpr (by omega)
            omega
        refine ⟨_, rfl, k p G np s1 ?_⟩
        rw [hp]
        unfold nmL Bg.nameW
        rw [if_neg hn, Bg.spW_any n0 lt jk, hw]
    · rintro σ G Q1 Q2 m ⟨x1, h1, i, j, hi, hj, y, hy, q⟩
      exact ⟨x1, h1, i, j, hi, hj, y, hy, m _ _ q⟩
end
end LB
set_option Elab.async false
set_option linter.all false
set_option maxRecDepth 100000
set_option maxHeartbeats 4000000
/-! Family B: great numbers. -/
namespace LB
open PySem L2 Wk
open Bg (Bg Wo)
/-- all but the source of draws is as it was -/
def Kp (p : Addr) (H G : Hp) : Prop := ∀ q o, H q = some o → q ≠ p → G q = some o
theorem Kp.refl (p : Addr) (H : Hp) : Kp p H H := fun _ _ h _ => h
theorem Kp.trans {p : Addr} {H G J : Hp} (a : Kp p H G) (b : Kp p G J) : Kp p H J := fun q o h n => b q o (a q o h n) n
theorem Kp.same {p : Addr} {H G J : Hp} (a : Kp p H G) (b : Same G J) : Kp p H J := fun q o h n => b q o (a q o h n)
theorem Kp.lst {p q : Addr} {H G : Hp} {xs : List V} (a : Kp p H G) (h : H q = some (.lst xs)) (n : q ≠ p) : G q = some (.lst xs) := a q _ h n
theorem RngAt.same {H G : Hp} {p : Addr} {d s c : Int} (B : RngAt H p d s c) (e : Same H G) : RngAt G p d s c := ⟨e _ _ B.at_, B.d0, B.s0, B.s1, B.c0⟩
/-- a list of texts is not the source -/
theorem RngAt.off {H : Hp} {p a : Addr} {d s c : Int} {xs : List Str} (B : RngAt H p d s c) (h : H a = some (.lst (xs.map V.str))) : a ≠ p := fun e => by
  rw [e, B.at_] at h
  cases xs with
  | nil => cases h
  | cons x r => cases h
theorem Tab.kp {H G : Hp} {p t o te sc : Addr} {d s c : Int} {ones tens : List Str} {hun : Str} {scales : List Str} (T : Tab H t ones tens hun scales o te sc) (B : RngAt H p d s c) (k : Kp p H G) : Tab G t ones tens hun scales o te sc := by
  have A := T.tb.at_
  refine ⟨⟨⟨k _ _ A.tup fun z => ?_, k _ _ A.lo (B.off A.lo), k _ _ A.lt (B.off A.lt), k _ _ A.ls (B.off A.ls)⟩, T.tb.l1, T.tb.l2, T.tb.l3, T.tb.nd⟩, T.good⟩
  have e := A.tup
  rw [z, B.at_] at e
  cases e
theorem W_small {j : Nat} (h : j ≤ 95) : (Bg.W j).natAbs < 2 ^ 1000 := by
  have e : Bg.W j = ((1000 ^ j : Nat) : Int) := by
    show (1000 : Int) ^ j = _
    rw [Int.natCast_pow]
    rfl
  rw [e]
  show 1000 ^ j < 2 ^ 1000
  have a : (1000 : Nat) ^ j ≤ (2 ^ 10) ^ j := Nat.pow_le_pow_left (by decide) j
  rw [← Nat.pow_mul] at a
  have b : (2 : Nat) ^ (10 * j) ≤ 2 ^ 950 := Nat.pow_le_pow_right (by decide) (by omega)
  have c : (2 : Nat) ^ 950 < 2 ^ 1000 := Nat.pow_lt_pow_right (by decide) (by decide)
  exact Nat.lt_of_le_of_lt (Nat.le_trans a b) c
/-- what a call that draws leaves: a number, the source, all else as it was -/
def Drawn (H : Hp) (p : Addr) (s c : Int) (n : Int) (G : Hp) : Prop := ∃ d' c', RngAt G p d' s c' ∧ c' ≤ c + n ∧ Kp p H G
def spGreat : Sp := fun vs H Q _ => ∃ (p : Addr) (d s c : Int) (k : Nat), vs = [.ref p, .int (Bg.W (k + 1))] ∧ RngAt H p d s c ∧ k ≤ 20 ∧ c < 2 ^ 29 ∧
  ∀ r H', 0 ≤ r → r < Bg.W (k + 1) → Drawn H p s c 100 H' → Q (.int r) H'
section
variable {P : Program} {w : World} {K : PySem.W.Frag} {mg : Str → Option Value} {base : Heap}
/-- the reading of a draw -/
theorem draw_use {H : Hp} {p : Addr} {d s c upper : Int} {Q : VK} {E : XK} (B : RngAt H p d s c) (u0 : 0 < upper) (u1 : upper.natAbs < 2 ^ 1000) (hc : c < 2 ^ 30) (k : ∀ r d' c' G, 0 ≤ r → r < upper → c' ≤ c + 1 → RngAt G p d' s c' → Kp p H G → Q (.int r) G) : spDraw [.ref p, .int upper] H Q E :=
  ⟨p, d, s, c, upper, rfl, B, u0, u1, hc, fun r d' c' G h1 h2 h3 h4 h5 => k r d' c' G h1 h2 h3 h4 h5⟩
theorem scGreat : FnScope ["rng", "top", "way", "found", "power", "group"] ["rng", "top"] (defScope sGreat) := ⟨rfl, rfl, rfl, by decide +kernel, rfl, by decide +kernel, by decide +kernel⟩
theorem ok_great {f fD : Addr} {fd dD : FuncData} (F : Fun K "_law_great" "_law_great" sGreat f fd) (D : Def1 P w K mg base "_law_draw" 1 fD dD ["rng", "upper"] spDraw) (mN : mg "min" = none) (mI : mg "int" = none) : FnOk P w K mg base CX0 2 f fd ["rng", "top"] spGreat := by
  refine F.ok scGreat (fun vs H Q E h => ?_) (fun cdv A outer s H vs Q E hr h => ?_)
  · obtain ⟨p, d, s, c, k, rfl, _⟩ := h
    rfl
  · obtain ⟨p, d, sd, c, k, rfl, B, k20, c29, kk⟩ := h
    refine ⟨_, pss_cons (ps_set (i := 2) scGreat.nd rfl (.inl rfl) (pe_call D.ok hr (by rfl) D.g D.k D.b .nil pass0 (pa_cons (pv 0) (pa_cons pe_int pa_nil))))
      (pss_cons (ps_if (pt_cmpR op_eq (pv 2) pe_int (nomark _)) (pss_one (ps_ret (pe_call D.ok hr (by rfl) D.g D.k D.b .nil pass0 (pa_cons (pv 0) (pa_cons (pv 1) pa_nil))))) pss_nil)
      (pss_cons (ps_if (pt_cmpR op_eq (pv 2) pe_int (nomark _)) (pss_one (ps_ret (pe_call D.ok hr (by rfl) D.g D.k D.b .nil pass0 (pa_cons (pv 0) (pa_cons (pe_callB (call_min2 rfl) (by rfl) mN (by decide +kernel) (pa_cons (pv 1) (pa_cons pe_int pa_nil))) pa_nil))))) pss_nil)
      (pss_cons (ps_if (pt_cmpR op_eq (pv 2) pe_int (nomark _)) (pss_one (ps_ret (pe_op op_sub (pe_op op_sub (pv 1) pe_int) (pe_call D.ok hr (by rfl) D.g D.k D.b .nil pass0 (pa_cons (pv 0) (pa_cons (pe_callB (call_min2 rfl) (by rfl) mN (by decide +kernel) (pa_cons (pv 1) (pa_cons pe_int pa_nil))) pa_nil)))))) pss_nil)
      (pss_cons (ps_asg (pe_tup (pa_cons pe_int (pa_cons pe_int pa_nil))) (pg_tup (by rfl) (pgs_cons (pg_name (i := 3) scGreat.nd rfl (.inl rfl)) (pgs_cons (pg_name (i := 4) scGreat.nd rfl (.inl rfl)) pgs_nil))))
      (pss_cons (ps_while PassesOwn.never (pt_cmpR op_lt (pv 4) (pv 1) (nomark _))
        (pss_cons (ps_set (i := 5) scGreat.nd rfl (.inl rfl) (pe_call D.ok hr (by rfl) D.g D.k D.b .nil pass0 (pa_cons (pv 0) (pa_cons (pe_ix ix_list (pe_lst (pa_cons pe_int (pa_cons pe_int pa_nil))) (pe_op op_sub (pv 2) pe_int) (fun _ _ => rfl)) pa_nil))))
        (pss_cons (ps_set (i := 3) scGreat.nd rfl (.inl rfl) (pe_op op_add (pv 3) (pe_op op_mul (pe_op op_mul (pv 4) (pv 5)) (pe_callTy call_int1 (by rfl) mI (by decide +kernel) (pa_cons (pe_cmpR op_eq (pe_call D.ok hr (by rfl) D.g D.k D.b .nil pass0 (pa_cons (pv 0) (pa_cons pe_int pa_nil))) pe_int (nomark _)) pa_nil)))))
        (pss_one (ps_set (i := 4) scGreat.nd rfl (.inl rfl) (pe_op op_mul (pv 4) pe_int))))))
      (pss_one (ps_ret (pv 3)))))))), ?_⟩
    have wp := Bg.W_pos (k + 1)
    have w0 := Bg.W_pos k
    have w1 := Bg.W_succ k
    have ws := W_small (j := k + 1) (by omega)
    refine ⟨_, rfl, p, _, _, _, _, rfl, B, (by decide), (by decide), (by omega), fun way d1 c1 G1 y0 y1 e1 B1 K1 => ?_⟩
    refine ⟨_, rfl, rfl, _, rfl, ite2 (fun q => ?_) (fun q => ?_)⟩
    · exact ⟨_, rfl, _, rfl, p, _, _, _, _, rfl, B1, wp, ws, (by omega), fun r d2 c2 G2 r0 r1 e2 B2 K2 => kk r G2 r0 r1 ⟨d2, c2, B2, by omega, Kp.trans K1 K2⟩⟩
    refine ⟨_, rfl, rfl, _, rfl, ite2 (fun q1 => ?_) (fun q1 => ?_)⟩
    · refine ⟨_, rfl, _, rfl, _, _, rfl, p, _, _, _, _, rfl, B1, ?_, ?_, (by omega), fun r d2 c2 G2 r0 r1 e2 B2 K2 => kk r G2 r0 ?_ ⟨d2, c2, B2, by omega, Kp.trans K1 K2⟩⟩
      · split <;> omega
      · split
        · decide
        · exact ws
      · split at r1 <;> omega
    refine ⟨_, rfl, rfl, _, rfl, ite2 (fun q2 => ?_) (fun q2 => ?_)⟩
    · refine ⟨_, rfl, _, _, rfl, rfl, _, rfl, _, rfl, _, _, rfl, p, _, _, _, _, rfl, B1, ?_, ?_, (by omega), fun r d2 c2 G2 r0 r1 e2 B2 K2 => ⟨_, _, rfl, rfl, kk _ G2 ?_ ?_ ⟨d2, c2, B2, by omega, Kp.trans K1 K2⟩⟩⟩
      · split <;> omega
      · split
        · decide
        · exact ws
      · split at r1 <;> omega
      · omega
    have hw : way = 3 ∨ way = 4 := by
      have n0 : way ≠ 0 := fun z => q (decide_eq_true (by rw [z]))
      have n1 : way ≠ 1 := fun z => q1 (decide_eq_true (by rw [z]))
      have n2 : way ≠ 2 := fun z => q2 (decide_eq_true (by rw [z]))
      omega
    obtain ⟨u, hu, u0, u1⟩ : ∃ u : Int, atI [V.int 1000, V.int 30] (way - 3) = some (.int u) ∧ 0 < u ∧ u ≤ 1000 := by
      rcases hw with rfl | rfl
      · exact ⟨1000, rfl, by decide, by decide⟩
      · exact ⟨30, rfl, by decide, by decide⟩
    refine ⟨by show 2 ≤ sizeLine; decide, fun T nT => ⟨T, _, rfl, SqT.of upd_same, rfl, _, _, rfl, _, _, rfl, rfl, ?_⟩⟩
    have sT : Same G1 (upd G1 T (.tup [.int 0, .int 1])) := same_new nT
    refine while_by (fun σ G => ∃ (j : Nat) (found d' c' : Int) (x : Option V), σ = [some (.ref p), some (.int (Bg.W (k + 1))), some (.int way), some (.int found), some (.int (Bg.W j)), x] ∧ j ≤ k + 1 ∧ 0 ≤ found ∧ found < Bg.W j ∧ RngAt G p d' sd c' ∧ c' ≤ c + 1 + 2 * (j : Int) ∧ Kp p H G)
      (fun σ _ => match σ with | [_, some (.int t), _, _, some (.int x), _] => (t - x).toNat | _ => 0) ⟨0, 0, d1, c1, none, rfl, Nat.zero_le _, Int.le_refl _, by decide, B1.same sT, by omega, Kp.same K1 sT⟩ ?_ ?_
    · rintro σ G ⟨j, found, d2, c2, x, rfl, jk, f0, f1, B2, e2, K2⟩
      refine ⟨_, rfl, _, rfl, _, _, rfl, rfl, _, rfl, ite2 (fun z => ?_) (fun z => ?_)⟩
      · have jk' : j < k + 1 := Bg.W_inj.mp (of_decide_eq_true z)
        have pj := Bg.W_pos j
        have sj := Bg.W_succ j
        have lj := Bg.W_lt jk'
        refine ⟨_, rfl, by show 2 ≤ sizeLine; decide, fun l nl => ?_⟩
        have s3 : Same G (upd G l (.lst [.int 1000, .int 30])) := same_new nl
        refine ⟨_, rfl, _, _, rfl, rfl, l, _, _, _, rfl, rfl, SqL.of upd_same, hu, p, _, _, _, _, rfl, (B2.same s3), u0, (Nat.lt_of_le_of_lt (show u.natAbs ≤ 1000 by omega) (by decide)), (by omega), fun g d3 c3 G3 g0 g1 e3 B3 K3 => ?_⟩
        refine ⟨_, rfl, _, rfl, _, rfl, _, _, rfl, rfl, .inr ⟨by omega, by omega⟩, _, rfl, p, _, _, _, _, rfl, B3, (by decide), (by decide), (by omega), fun y d4 c4 G4 y0 y1 e4 B4 K4 => ?_⟩
        refine ⟨rfl, .inr ⟨_, rfl, ?_⟩⟩
        obtain ⟨v, hv⟩ : ∃ v : Int, v = if decide (V.int y = V.int 0) = true then 1 else 0 := ⟨_, rfl⟩
        have vb : 0 ≤ v ∧ v ≤ 1 := by
          rw [hv]
          split <;> decide
        refine ⟨_, _, rfl, rfl, .inr (by rw [← hv]; exact ⟨by omega, by omega⟩), _, _, rfl, rfl, _, rfl, _, _, rfl, rfl, .inr ⟨by decide, by decide⟩, ?_⟩
        have m0 : 0 ≤ Bg.W j * g := Int.mul_nonneg (by omega) g0
        have m1 : Bg.W j * g ≤ Bg.W j * 999 := Int.mul_le_mul_of_nonneg_left (by omega) (by omega)
        have v2 : v = 0 ∨ v = 1 := by omega
        refine ⟨⟨j + 1, found + Bg.W j * g * v, d4, c4, some (.int g), ?_, jk', ?_, ?_, B4, by omega, Kp.trans (Kp.same K2 s3) (Kp.trans K3 K4)⟩, ?_⟩
        · rw [show Bg.W (j + 1) = Bg.W j * 1000 by rw [Bg.W_succ, Int.mul_comm], hv]
          rfl
        · rcases v2 with rfl | rfl
          · rw [Int.mul_zero]
            omega
          · rw [Int.mul_one]
            omega
        · rcases v2 with rfl | rfl
          · rw [Int.mul_zero]
            omega
          · rw [Int.mul_one]
            omega
        · show (Bg.W (k + 1) - Bg.W j * 1000).toNat < (Bg.W (k + 1) - Bg.W j).toNat
          omega
      · have e : j = k + 1 := by
          have : ¬ j < k + 1 := fun y => z (decide_eq_true (Bg.W_inj.mpr y))
          omega
        subst e
        exact ⟨_, rfl, kk found G f0 f1 ⟨d2, c2, B2, by omega, K2⟩⟩
    · rintro σ G Q1 Q2 m ⟨x1, h1, x2, h2, i, j, hi, hj, y, hy, q⟩
      exact ⟨x1, h1, x2, h2, i, j, hi, hj, y, hy, m _ _ q⟩
end
end LB
set_option Elab.async false
set_option linter.all false
set_option maxRecDepth 100000
set_option maxHeartbeats 8000000
/-! Names as texts, numbers compared. -/
namespace LB
open PySem L2 Wk
open Bg (Bg Wo)
/-- sep.join(xs) where K is known beforehand: within a comprehension -/
def rJn (K : PySem.W.Frag) : V → List V → Hp → VK → Prop := fun x xs H Q => ∃ a p, ∃ ys : List Str, x = .str a ∧ xs = [.ref p] ∧ (SqL K H p (ys.map V.str) ∨ SqT K H p (ys.map V.str)) ∧ (ys.map (·.length)).sum + ys.length * a.length ≤ 16777216 ∧ Q (.str (Txt.join a ys)) H
theorem pe_joinK {X : Cx} {o e : Expr} {to te : TE} {apos pos : Pos} (K : PySem.W.Frag) (hK : X.K = K) (ho : PE X o to) (he : PE X e te) (hs : starEach [e] X.env = [(false, eval e X.env)] := by rfl) (hbase : attributeBase o "join" X.env (eval o X.env) = eval o X.env := by rfl) (hline : (apos.endLine == pos.line) = true := by rfl) :
    PE X (.Call (.Attribute o "join" apos) [e] [] pos) (tM1 (rJn K) to te) := by
  subst hK
  exact pe_join ho he hs hbase hline
/-- a sorted vocabulary there is -/
theorem sort_one (x : Str × Wo) : ∀ {ws : List (Str × Wo)}, ascW ws → (∀ e ∈ ws, e.1 ≠ x.1) → ∃ us, us.Perm (x :: ws) ∧ ascW us
  | [], _, _ => ⟨[x], List.Perm.refl _, List.pairwise_singleton _ _⟩
  | y :: ws, h, n => by
    obtain ⟨hd, tl⟩ := List.pairwise_cons.mp h
    cases c : WkI.ltS x.1 y.1 with
    | true =>
      refine ⟨x :: y :: ws, List.Perm.refl _, List.pairwise_cons.mpr ⟨fun e he => ?_, h⟩⟩
      rcases List.mem_cons.mp he with rfl | he
      · exact c
      · exact ltS_trans c (hd e he)
    | false =>
      have lt : WkI.ltS y.1 x.1 = true := by
        cases d : WkI.ltS y.1 x.1 with
        | true => rfl
        | false => exact absurd (WkI.ltS_tri d c) (n y List.mem_cons_self)
      obtain ⟨us, p, a⟩ := sort_one x tl fun e he => n e (List.mem_cons_of_mem _ he)
      refine ⟨y :: us, (List.Perm.cons y p).trans (List.Perm.swap x y ws), List.pairwise_cons.mpr ⟨fun e he => ?_, a⟩⟩
      rcases List.mem_cons.mp (p.mem_iff.mp he) with rfl | he
      · exact lt
      · exact hd e he
theorem sort_all : ∀ {l : List (Str × Wo)}, (l.map (·.1)).Nodup → ∃ ws, ws.Perm l ∧ ascW ws
  | [], _ => ⟨[], List.Perm.refl _, List.Pairwise.nil⟩
  | x :: l, h => by
    rw [List.map_cons, List.nodup_cons] at h
    obtain ⟨ws, p, a⟩ := sort_all h.2
    obtain ⟨us, q, b⟩ := sort_one x a fun e he z => h.1 (List.mem_map.mpr ⟨e, p.mem_iff.mp he, z⟩)
    exact ⟨us, q.trans (List.Perm.cons x p), b⟩
theorem Tab.has_voc {H : Hp} {t : Addr} {ones tens : List Str} {hun : Str} {scales : List Str} {o te sc : Addr} (T : Tab H t ones tens hun scales o te sc) : ∃ ws, Voc ones tens hun scales ws := by
  have n : ((LB.voc ones tens hun scales).map (·.1)).Nodup := by
    rw [voc_fst]
    exact (perm_hun ones tens hun scales).nodup_iff.mpr T.tb.nd
  obtain ⟨ws, p, a⟩ := sort_all n
  exact ⟨ws, T.voc p a⟩
section
variable {ones tens : List Str} {hun : Str} {scales : List Str} {ws : List (Str × Wo)}
/-- two numbers, one name ahead of the other -/
theorem less_or (V : Voc ones tens hun scales ws) {a b : Int} (a0 : 0 ≤ a) (a1 : a < Bg.W (scales.length + 1)) (b0 : 0 ≤ b) (b1 : b < Bg.W (scales.length + 1)) (ne : a ≠ b) (h : ltL (nmL ones tens hun scales a) (nmL ones tens hun scales b) = false) :
    ltL (nmL ones tens hun scales b) (nmL ones tens hun scales a) = true := by
  cases c : ltL (nmL ones tens hun scales b) (nmL ones tens hun scales a) with
  | true => rfl
  | false => exact absurd (name_inj V a0 a1 b0 b1 (ltL_tri h c)) ne
/-- places below a bound are in the order of the names -/
theorem place_lt (V : Voc ones tens hun scales ws) {a b m : Int} (a0 : 0 ≤ a) (b0 : 0 ≤ b) (am : a < m) (bm : b < m) (m1 : m ≤ Bg.W (scales.length + 1)) (ne : a ≠ b) :
    decide (ahead ones tens hun scales 0 (m - 1) a < ahead ones tens hun scales 0 (m - 1) b) = ltL (nmL ones tens hun scales a) (nmL ones tens hun scales b) := by
  cases c : ltL (nmL ones tens hun scales a) (nmL ones tens hun scales b) with
  | true => exact decide_eq_true (ahead_lt ones tens hun scales a0 (by omega) c)
  | false =>
    have d := less_or V a0 (by omega) b0 (by omega) ne c
    have := ahead_lt ones tens hun scales (lo := 0) (hi := m - 1) b0 (by omega) d
    exact decide_eq_false (by omega)
theorem ahead_up {m m' n : Int} (h0 : 1 ≤ m) (h : m ≤ m') : ahead ones tens hun scales 0 (m - 1) n ≤ ahead ones tens hun scales 0 (m' - 1) n := by
  have := ahead_grow ones tens hun scales (lo := 0) (hi := m - 1) (n := n) (m' - m).toNat (by omega)
  rw [show m - 1 + (((m' - m).toNat : Nat) : Int) = m' - 1 by omega] at this
  exact this
theorem nm_good (good : GoodRow (ones ++ (tens ++ hun :: scales))) (n : Int) : ∀ x ∈ nmL ones tens hun scales n, GoodWord x := by
  intro x hx
  obtain ⟨y, _, rfl⟩ := List.mem_map.mp hx
  exact good.ok _ (wd_mem y)
theorem nm_ne {n : Int} (h0 : 0 ≤ n) (h1 : n < Bg.W (scales.length + 1)) : nmL ones tens hun scales n ≠ [] := by
  intro h
  have e : Bg.nameW n (scales.length + 1) = [] := List.map_eq_nil_iff.mp h
  obtain ⟨c, c1, c2, c3⟩ := Bg.name_path h0 h1
  rw [e] at c1
  cases c1
  have : Bg.has (Bg.start scales.length) = false := rfl
  rw [this] at c2
  cases c2
theorem nm_len (n : Int) : (nmL ones tens hun scales n).length ≤ 5 * (scales.length + 1) + 1 := by
  unfold nmL Bg.nameW
  rw [List.length_map]
  split
  · show 1 ≤ _
    omega
  · have := Bg.accW_len n (scales.length + 1) (scales.length + 1)
    rw [Bg.accW_all] at this
    omega
/-- the text of a name is not too long to be joined -/
theorem nm_join (good : GoodRow (ones ++ (tens ++ hun :: scales))) (l3 : scales.length ≤ 90) (n : Int) : ((nmL ones tens hun scales n).map (·.length)).sum + (nmL ones tens hun scales n).length * (" " : Str).length ≤ 16777216 := by
  have l := nm_len (ones := ones) (tens := tens) (hun := hun) (scales := scales) n
  have s : ∀ l : List Str, (∀ x ∈ l, GoodWord x) → (l.map (·.length)).sum ≤ 20 * l.length := by
    intro l
    induction l with
    | nil => intro _; exact Nat.le_refl _
    | cons x l ih =>
      intro h
      rw [List.map_cons, List.sum_cons, List.length_cons]
      have a := (h x List.mem_cons_self).2.1
      have b := ih fun y hy => h y (List.mem_cons_of_mem _ hy)
      omega
  have q := s _ (nm_good good n)
  have e : (" " : Str).length = 1 := by decide +kernel
  rw [e]
  omega
end
def nameT (ones tens : List Str) (hun : Str) (scales : List Str) (n : Int) : Str := Txt.join " " (nmL ones tens hun scales n)
/-- the law's own text: what it does for each script -/
def spTrue (K : PySem.W.Frag) : Sp := fun vs H Q _ => ∃ (a : Addr) (ns : List Int), vs = [.ref a] ∧ SqL K H a (ns.map V.int) ∧ ns.length ≤ 63 ∧ ∀ H', Q (.bl true) H'
theorem Tab.of {H : Hp} {t : Addr} {ones tens : List Str} {hun : Str} {scales : List Str} {o te sc : Addr} (A : TabAt H t ones tens hun scales o te sc) (l1 : ones.length = 20) (l2 : tens.length = 8) (l3 : scales.length ≤ 90) (g : GoodRow (ones ++ (tens ++ hun :: scales))) :
    Tab H t ones tens hun scales o te sc := ⟨⟨A, l1, l2, l3, g.nd⟩, g⟩
section
variable {P : Program} {w : World} {K : PySem.W.Frag} {mg : Str → Option Value} {base : Heap}
theorem int_at {ns : List Int} {i : Nat} {y : V} (h : (ns.map V.int)[i]? = some y) : ∃ m, ns[i]? = some m ∧ y = .int m := by
  rw [List.getElem?_map] at h
  cases q : ns[i]? with
  | none =>
    rw [q] at h
    cases h
  | some m =>
    rw [q] at h
    exact ⟨m, rfl, (Option.some.inj h).symm⟩
end
end LB
set_option Elab.async false
set_option linter.all false
set_option maxRecDepth 100000
set_option maxHeartbeats 4000000
/-! Rows of words: where they lead. -/
namespace Bg
theorem fol_has {b c : Bg} {x : Wo} (ok : Ok b) (hx : WOk x) (h : fol b x = some c) : has c = true := by
  obtain ⟨h1, h2, h3, h4⟩ := ok.bnd
  cases x with
  | low n =>
    simp only [fol] at h
    by_cases n0 : n = 0
    · rw [if_pos n0] at h
      cases hb : has b with
      | true =>
        rw [hb] at h
        cases h
      | false =>
        rw [hb] at h
        cases h
        rfl
    · have np : 0 < n := by
        rcases hx with ⟨z, _⟩ | ⟨k, k1, k2, rfl⟩ <;> omega
      rw [if_neg n0] at h
      by_cases n10 : n ≥ 10
      · rw [if_pos n10] at h
        by_cases r : b.r = 100
        · rw [if_pos r] at h
          cases h
          unfold has
          rw [decide_eq_true (by show b.t + (b.g + n) > 0; omega)]
          rfl
        · rw [if_neg r] at h
          cases h
      · rw [if_neg n10] at h
        by_cases r : b.r ≥ 10
        · rw [if_pos r] at h
          cases h
          unfold has
          rw [decide_eq_true (by show b.t + (b.g + n) > 0; omega)]
          rfl
        · rw [if_neg r] at h
          cases h
  | hun =>
    simp only [fol] at h
    by_cases r : 0 < b.g ∧ b.g < 10
    · rw [if_pos r] at h
      cases h
      unfold has
      rw [decide_eq_true (by show b.t + b.g * 100 > 0; omega)]
      rfl
    · rw [if_neg r] at h
      cases h
  | sc i =>
    simp only [fol] at h
    by_cases r : b.g > 0 ∧ i + 1 < b.m
    · rw [if_pos r] at h
      cases h
      have w := W_pos (i + 1)
      have z : 0 < b.g * W (i + 1) := Int.mul_pos r.1 w
      unfold has
      rw [decide_eq_true (by show b.t + b.g * W (i + 1) + 0 > 0; omega)]
      rfl
    · rw [if_neg r] at h
      cases h
theorem folL_ok : ∀ {A : List Wo} {b c : Bg}, Ok b → (∀ x ∈ A, WOk x) → folL b A = some c → Ok c ∧ (A ≠ [] → has c = true)
  | [], b, c, ok, _, h => by
    cases h
    exact ⟨ok, fun z => absurd rfl z⟩
  | x :: A, b, c, ok, hA, h => by
    cases e : fol b x with
    | none =>
      unfold folL at h
      rw [e] at h
      cases h
    | some d =>
      rw [folL_one e] at h
      have okd := fol_ok ok (hA x List.mem_cons_self) e
      obtain ⟨h1, h2⟩ := folL_ok okd (fun y hy => hA y (List.mem_cons_of_mem _ hy)) h
      refine ⟨h1, fun _ => ?_⟩
      cases A with
      | nil =>
        cases h
        exact fol_has ok (hA x List.mem_cons_self) e
      | cons y A => exact h2 (by simp)
end Bg
namespace LB
open PySem L2 Wk
open Bg (Bg Wo)
theorem goF_app (vc : List (Str × Wo)) : ∀ (xs ys : List Str) (b : Bg) (i : Nat), goF vc b (xs ++ ys) i = match goF vc b xs i with
    | .inl c => goF vc c ys (i + xs.length)
    | .inr j => .inr j
  | [], ys, b, i => rfl
  | x :: xs, ys, b, i => by
    rw [List.cons_append, goF_stepJ, goF_stepJ]
    cases nextB vc b x with
    | none => rfl
    | some c =>
      show goF vc c (xs ++ ys) (i + 1) = _
      rw [goF_app vc xs ys c (i + 1), List.length_cons, Nat.add_assoc, Nat.add_comm 1]
section
variable {ones tens : List Str} {hun : Str} {scales : List Str}
theorem mean_wd (l1 : ones.length = 20) (l2 : tens.length = 8) (nd : (ones ++ (tens ++ hun :: scales)).Nodup) {x : Wo} (h : x ∈ Bg.all scales.length) : mean (voc ones tens hun scales) (wd ones tens hun scales x) = some x := by
  rw [← voc_snd (ones := ones) (tens := tens) (hun := hun) l1 l2] at h
  obtain ⟨e, he, rfl⟩ := List.mem_map.mp h
  rw [← voc_wd l1 l2 e he]
  exact mem_mean (voc_nd nd) he
theorem next_wd (l1 : ones.length = 20) (l2 : tens.length = 8) (nd : (ones ++ (tens ++ hun :: scales)).Nodup) {x : Wo} (h : x ∈ Bg.all scales.length) (b : Bg) : nextB (voc ones tens hun scales) b (wd ones tens hun scales x) = Bg.fol b x := by
  unfold nextB
  rw [mean_wd l1 l2 nd h]
  rfl
theorem goF_wd (l1 : ones.length = 20) (l2 : tens.length = 8) (nd : (ones ++ (tens ++ hun :: scales)).Nodup) : ∀ {A : List Wo} {b c : Bg} {i : Nat}, (∀ x ∈ A, x ∈ Bg.all scales.length) → Bg.folL b A = some c →
    goF (voc ones tens hun scales) b (A.map (wd ones tens hun scales)) i = .inl c
  | [], b, c, i, _, h => by
    cases h
    rfl
  | x :: A, b, c, i, hA, h => by
    rw [List.map_cons, goF_stepJ, next_wd l1 l2 nd (hA x List.mem_cons_self)]
    cases e : Bg.fol b x with
    | none =>
      unfold Bg.folL at h
      rw [e] at h
      cases h
    | some d =>
      rw [Bg.folL_one e] at h
      exact goF_wd l1 l2 nd (fun y hy => hA y (List.mem_cons_of_mem _ hy)) h
/-- where the beginning of a name leads -/
theorem name_cut (l1 : ones.length = 20) (l2 : tens.length = 8) (nd : (ones ++ (tens ++ hun :: scales)).Nodup) {n : Int} (n0 : 0 ≤ n) (n1 : n < Bg.W (scales.length + 1)) (cut : Nat) :
    ∃ c, goF (voc ones tens hun scales) (Bg.start scales.length) ((nmL ones tens hun scales n).take cut) 0 = .inl c ∧ (0 < cut → Bg.has c = true) := by
  unfold nmL
  obtain ⟨e, he, _⟩ := Bg.name_path n0 n1
  have hall := Bg.name_all (n := n) (k := scales.length)
  have ne : Bg.nameW n (scales.length + 1) ≠ [] := fun z => nm_ne (ones := ones) (tens := tens) (hun := hun) n0 n1 (by unfold nmL; rw [z]; rfl)
  generalize Bg.nameW n (scales.length + 1) = A at he hall ne
  have es := List.take_append_drop cut A
  rw [← es, Bg.folL_app] at he
  cases hc : Bg.folL (Bg.start scales.length) (A.take cut) with
  | none =>
    rw [hc] at he
    cases he
  | some c =>
    have sub : ∀ x ∈ A.take cut, x ∈ Bg.all scales.length := fun x hx => hall x (List.mem_of_mem_take hx)
    refine ⟨c, ?_, fun cp => ?_⟩
    · have z := goF_wd (i := 0) l1 l2 nd sub hc
      rw [List.map_take] at z
      exact z
    · refine (Bg.folL_ok (Bg.start_ok _) (fun x hx => Bg.all_ok (sub x hx)) hc).2 fun z => ?_
      cases A with
      | nil => exact ne rfl
      | cons x A =>
        cases cut with
        | zero => omega
        | succ k => cases z
end
end LB
set_option Elab.async false
set_option linter.all false
set_option maxRecDepth 100000
set_option maxHeartbeats 4000000
/-! How many names begin so: by the open group and the scale words that may still come. -/
namespace Bg
/-- the words behind the last scale word, and its place; k where there is none -/
def lastW (k : Nat) : List Wo → Nat × List Wo
  | A => A.foldl (fun p x => match x with | .sc i => (i, []) | y => (p.1, p.2 ++ [y])) (k, [])
theorem lastW_snoc (k : Nat) (A : List Wo) (x : Wo) : lastW k (A ++ [x]) = match x with | .sc i => (i, []) | y => ((lastW k A).1, (lastW k A).2 ++ [y]) := by
  unfold lastW
  rw [List.foldl_append]
  rfl
/-- the ways that the words of the open group leave -/
inductive Gst : List Wo → Int → Int → Prop
  | nil : Gst [] 0 100
  | dig {n : Int} : 1 ≤ n → n ≤ 9 → Gst [.low n] n 1
  | hun {l : List Wo} {g : Int} : 100 ≤ g → Gst (l ++ [.hun]) g 100
  | ten {l : List Wo} {k g : Int} : 2 ≤ k → k ≤ 9 → 10 ≤ g → Gst (l ++ [.low (10 * k)]) g 10
  | end_ {l : List Wo} {n g : Int} : 1 ≤ n → n < 20 → 10 ≤ g → (10 ≤ n ∨ l ≠ []) → Gst (l ++ [.low n]) g 1
def woEq : (a b : Wo) → Decidable (a = b)
  | .low n, .low m => if h : n = m then isTrue (congrArg Wo.low h) else isFalse fun e => h (Wo.low.inj e)
  | .hun, .hun => isTrue rfl
  | .sc i, .sc j => if h : i = j then isTrue (congrArg Wo.sc h) else isFalse fun e => h (Wo.sc.inj e)
  | .low _, .hun => isFalse fun e => nomatch e
  | .low _, .sc _ => isFalse fun e => nomatch e
  | .hun, .low _ => isFalse fun e => nomatch e
  | .hun, .sc _ => isFalse fun e => nomatch e
  | .sc _, .low _ => isFalse fun e => nomatch e
  | .sc _, .hun => isFalse fun e => nomatch e
instance : DecidableEq Wo := woEq
theorem gst_nil {L : List Wo} {g r : Int} (h : Gst L g r) (e : L = []) : g = 0 ∧ r = 100 := by
  cases h with
  | nil => exact ⟨rfl, rfl⟩
  | dig _ _ => cases e
  | hun _ => simp at e
  | ten _ _ _ => simp at e
  | end_ _ _ _ _ => simp at e
/-- what is known of a beginning by its words -/
def Kn (k : Nat) (A : List Wo) (c : Bg) : Prop := (A = [.low 0] ∧ c = zero) ∨
  (c.m = (lastW k A).1 + 1 ∧ Gst (lastW k A).2 c.g c.r ∧ c.t + W c.m ≤ W (k + 1) ∧ (lastW k A).1 ≤ k)
theorem W_one : W 1 = 1000 := by decide
theorem kn_start (k : Nat) : Kn k [] (start k) := .inr ⟨rfl, .nil, by show 0 + W (k + 1) ≤ W (k + 1); omega, Nat.le_refl _⟩
theorem kn_step {k : Nat} {A : List Wo} {c d : Bg} {x : Wo} (ok : Ok c) (ha : A ≠ [] → has c = true) (kn : Kn k A c) (hx : x ∈ all k) (h : fol c x = some d) : Kn k (A ++ [x]) d := by
  rcases kn with ⟨rfl, rfl⟩ | ⟨hm, hg, ht, hk⟩
  · exfalso
    have : fol zero x = none := by
      cases x with
      | low n =>
        unfold fol
        simp only
        by_cases z : n = 0
        · rw [if_pos z]
          rfl
        · rw [if_neg z]
          by_cases z2 : n ≥ 10
          · rw [if_pos z2, if_neg (by show ¬ (1 : Int) = 100; decide)]
          · rw [if_neg z2, if_neg (by show ¬ (1 : Int) ≥ 10; decide)]
      | hun =>
        unfold fol
        simp only
        rw [if_neg]
        rintro ⟨z, _⟩
        exact absurd z (by decide)
      | sc i =>
        unfold fol
        simp only
        rw [if_neg]
        rintro ⟨z, _⟩
        exact absurd z (by decide)
    rw [this] at h
    cases h
  · obtain ⟨b1, b2, b3, b4, b5, b6⟩ := ok.bnd
    have wok := all_ok hx
    cases x with
    | low n =>
      unfold fol at h
      simp only at h
      by_cases z : n = 0
      · rw [if_pos z] at h
        split at h
        · cases h
        · rename_i hn
          cases h
          have e : A = [] := by
            cases A with
            | nil => rfl
            | cons y A => exact absurd (ha (by simp)) hn
          subst e
          subst z
          exact .inl ⟨rfl, rfl⟩
      · rw [if_neg z] at h
        have n0 : 1 ≤ n := by
          rcases wok with ⟨q, _⟩ | ⟨j, q1, q2, q3⟩ <;> omega
        have l1 : (lastW k (A ++ [.low n])).1 = (lastW k A).1 := by rw [lastW_snoc]
        have l2 : (lastW k (A ++ [.low n])).2 = (lastW k A).2 ++ [.low n] := by rw [lastW_snoc]
        refine .inr ?_
        by_cases z2 : n ≥ 10
        · rw [if_pos z2] at h
          split at h
          · rename_i hr
            cases h
            refine ⟨by rw [l1]; exact hm, ?_, ht, by rw [l1]; exact hk⟩
            rw [l2]
            show Gst _ (c.g + n) (if n ≥ 20 then 10 else 1)
            by_cases z3 : n ≥ 20
            · rw [if_pos z3]
              rcases wok with ⟨q, q'⟩ | ⟨j, q1, q2, q3⟩
              · omega
              · rw [q3]
                exact .ten q1 q2 (by omega)
            · rw [if_neg z3]
              exact .end_ n0 (by omega) (by omega) (.inl z2)
          · cases h
        · rw [if_neg z2] at h
          split at h
          · rename_i hr
            cases h
            refine ⟨by rw [l1]; exact hm, ?_, ht, by rw [l1]; exact hk⟩
            rw [l2]
            show Gst _ (c.g + n) 1
            generalize hl : (lastW k A).2 = L at hg
            generalize c.g = g at hg b2
            generalize c.r = r at hg hr
            cases hg with
            | nil =>
              rw [Int.zero_add]
              exact .dig n0 (by omega)
            | dig _ _ => omega
            | hun q => exact .end_ n0 (by omega) (by omega) (.inr (by simp))
            | ten _ _ q => exact .end_ n0 (by omega) (by omega) (.inr (by simp))
            | end_ _ _ _ _ => omega
          · cases h
    | hun =>
      unfold fol at h
      simp only at h
      split at h
      · rename_i z
        cases h
        refine .inr ?_
        have l1 : (lastW k (A ++ [.hun])).1 = (lastW k A).1 := by rw [lastW_snoc]
        have l2 : (lastW k (A ++ [.hun])).2 = (lastW k A).2 ++ [.hun] := by rw [lastW_snoc]
        refine ⟨by rw [l1]; exact hm, ?_, ht, by rw [l1]; exact hk⟩
        rw [l2]
        exact .hun (by show 100 ≤ c.g * 100; omega)
      · cases h
    | sc i =>
      unfold fol at h
      simp only at h
      split at h
      · rename_i z
        cases h
        refine .inr ?_
        have l1 : (lastW k (A ++ [.sc i])) = (i, []) := by rw [lastW_snoc]
        rw [l1]
        refine ⟨rfl, .nil, ?_, by show i ≤ k; omega⟩
        show c.t + c.g * W (i + 1) + W (i + 1) ≤ W (k + 1)
        have w0 := W_pos (i + 1)
        have w1 : 1000 * W (i + 1) ≤ W c.m := W_lt z.2
        have w2 : (c.g + 1) * W (i + 1) ≤ 1000 * W (i + 1) := Int.mul_le_mul_of_nonneg_right (by omega) (Int.le_of_lt w0)
        rw [Int.add_mul, Int.one_mul] at w2
        omega
      · cases h
theorem kn_path {k : Nat} : ∀ (B A : List Wo) {c d : Bg}, Ok c → (A ≠ [] → has c = true) → Kn k A c → (∀ x ∈ B, x ∈ all k) → folL c B = some d → (∀ {c d : Bg} {x : Wo}, Ok c → WOk x → fol c x = some d → has d = true) → Kn k (A ++ B) d ∧ Ok d
  | [], A, c, d, ok, ha, kn, _, h, _ => by
    cases h
    rw [List.append_nil]
    exact ⟨kn, ok⟩
  | x :: B, A, c, d, ok, ha, kn, hB, h, hs => by
    have hx := hB x List.mem_cons_self
    cases e : fol c x with
    | none =>
      unfold folL at h
      rw [e] at h
      cases h
    | some y =>
      rw [folL_one e] at h
      have z := kn_path B (A ++ [x]) (fol_ok ok (all_ok hx) e) (fun _ => hs ok (all_ok hx) e) (kn_step ok ha kn hx e) (fun u hu => hB u (List.mem_cons_of_mem _ hu)) h hs
      rw [List.append_assoc] at z
      exact z
/-- for each scale word that may still come, or none -/
def ways (m : Nat) : Int := sumR (fun j => W j) m
/-- what the law finds by the words -/
def dueW (k : Nat) (A : List Wo) : Int :=
  if A = [] then W (k + 1) else if (lastW k A).2 = [] then W ((lastW k A).1 + 1) else if (lastW k A).2 = [.low 0] then 1 else
  match (lastW k A).2.getLast? with
  | some .hun => 100 * ways ((lastW k A).1 + 1)
  | some (.low n) => if n ≥ 20 then 10 * ways ((lastW k A).1 + 1) else if (lastW k A).2.length = 1 ∧ 1 ≤ n ∧ n ≤ 9 then 101 * ways ((lastW k A).1 + 1) else ways ((lastW k A).1 + 1)
  | _ => 0
theorem fb_id {W0 x : Int} (h0 : 0 ≤ x) (h1 : x ≤ W0) : fb 0 (W0 - 1) x = x := by
  unfold fb mx mn
  repeat' split
  all_goals omega
theorem sumR_mul (a : Int) (f : Nat → Int) : ∀ n, sumR (fun j => a * f j) n = a * sumR f n
  | 0 => (Int.mul_zero a).symm
  | n + 1 => by
    show sumR (fun j => a * f j) n + a * f n = a * (sumR f n + f n)
    rw [sumR_mul a f n, Int.mul_add]
theorem cf_sum {k : Nat} {c : Bg} (ok : Ok c) (hm : c.t + W c.m ≤ W (k + 1)) (g0 : c.g ≠ 0) : cf (fb 0 (W (k + 1) - 1)) c = (c.r + if c.g < 10 then 100 else 0) * ways c.m := by
  obtain ⟨b1, b2, b3, b4, b5, b6⟩ := ok.bnd
  rw [cf_pos g0]
  unfold ways
  rw [← sumR_mul]
  refine sumR_congr _ fun j hj => ?_
  have w0 := W_pos j
  have w1 : 1000 * W j ≤ W c.m := W_lt hj
  have id : ∀ n : Int, 0 ≤ n → n ≤ 1000 → fb 0 (W (k + 1) - 1) (c.t + n * W j) = c.t + n * W j := fun n n0 n1 => by
    have p0 : 0 ≤ n * W j := Int.mul_nonneg n0 (Int.le_of_lt w0)
    have p1 : n * W j ≤ 1000 * W j := Int.mul_le_mul_of_nonneg_right n1 (Int.le_of_lt w0)
    exact fb_id (by omega) (by omega)
  unfold cj
  simp only
  rw [id (c.g + c.r) (by omega) (by omega), id c.g (by omega) (by omega), Int.add_mul, Int.add_mul]
  by_cases z : c.g < 10
  · rw [if_pos z, if_pos z, show c.g * 100 + 1 * 100 = (c.g + 1) * 100 by omega, id ((c.g + 1) * 100) (by omega) (by omega), id (c.g * 100) (by omega) (by omega), show (c.g + 1) * 100 = c.g * 100 + 100 by omega, Int.add_mul, Int.add_mul]
    omega
  · rw [if_neg z, if_neg z, Int.add_zero, Int.add_zero]
    omega
theorem cf_due {k : Nat} {A : List Wo} {c : Bg} (ok : Ok c) (kn : Kn k A c) : cf (fb 0 (W (k + 1) - 1)) c = dueW k A := by
  have wk := W_pos (k + 1)
  rcases kn with ⟨rfl, rfl⟩ | ⟨hm, hg, ht, hk⟩
  · have e : dueW k [.low 0] = 1 := by
      unfold dueW
      have l2 : (lastW k [.low 0]).2 = [.low 0] := rfl
      rw [if_neg (by simp), l2, if_neg (by simp), if_pos rfl]
    rw [e]
    show fb 0 (W (k + 1) - 1) (0 + W 0) - fb 0 (W (k + 1) - 1) 0 = 1
    rw [show W 0 = 1 from rfl, fb_id (by omega) (by omega), fb_id (by omega) (by omega)]
    rfl
  · obtain ⟨b1, b2, b3, b4, b5, b6⟩ := ok.bnd
    have wm := W_pos c.m
    have sum := cf_sum ok ht
    by_cases a0 : A = []
    · subst a0
      have e : lastW k [] = (k, []) := rfl
      rw [e] at hm hg
      unfold dueW
      rw [if_pos rfl]
      have g0 := (gst_nil hg rfl).1
      have hm : c.m = k + 1 := hm
      unfold cf
      rw [if_pos g0, fb_id (by omega) (by omega), fb_id b1 (by omega), hm]
      omega
    · unfold dueW
      rw [if_neg a0]
      generalize (lastW k A).2 = L at hg
      generalize (lastW k A).1 = left at hm
      rw [hm] at sum
      generalize hgg : c.g = g at hg sum b2
      generalize hrr : c.r = r at hg sum
      cases hg with
      | nil =>
        rw [if_pos rfl]
        unfold cf
        rw [if_pos hgg, fb_id (by omega) (by omega), fb_id b1 (by omega), hm]
        omega
      | dig h1 h2 =>
        rw [if_neg (by simp), if_neg (by intro z; simp only [List.cons.injEq, Wo.low.injEq, and_true] at z; omega), sum (by omega), if_pos (by omega)]
        show (1 + 100) * ways (left + 1) = if g ≥ 20 then _ else _
        rw [if_neg (by omega), if_pos ⟨rfl, h1, h2⟩]
        rfl
      | hun h1 =>
        rename_i l
        rw [if_neg (by simp), if_neg (by intro z; have := congrArg List.getLast? z; simp at this), sum (by omega), if_neg (by omega)]
        simp only [List.getLast?_append, List.getLast?_singleton, Option.some_or]
        rfl
      | ten h1 h2 h3 =>
        rename_i l q
        rw [if_neg (by simp), if_neg (by intro z; have := congrArg List.getLast? z; simp at this; omega), sum (by omega), if_neg (by omega)]
        simp only [List.getLast?_append, List.getLast?_singleton, Option.some_or]
        rw [if_pos (by omega)]
        rfl
      | end_ h1 h2 h3 h4 =>
        rename_i l n
        rw [if_neg (by simp), if_neg (by intro z; have := congrArg List.getLast? z; simp at this; omega), sum (by omega), if_neg (by omega)]
        simp only [List.getLast?_append, List.getLast?_singleton, Option.some_or]
        rw [if_neg (by omega), if_neg ?_]
        · rw [Int.add_zero, Int.one_mul]
        · rintro ⟨z1, z2, z3⟩
          rcases h4 with h4 | h4
          · omega
          · refine h4 ?_
            rw [List.length_append] at z1
            have z1 : l.length + 1 = 1 := z1
            exact List.eq_nil_of_length_eq_zero (by omega)
theorem own_one {k : Nat} {A : List Wo} {c : Bg} (ok : Ok c) (kn : Kn k A c) (ha : A ≠ [] → has c = true) : own (fb 0 (W (k + 1) - 1)) c = if A = [] then 0 else 1 := by
  have wk : 1 ≤ W (k + 1) := W_pos (k + 1)
  have w1 : W 1 ≤ W (k + 1) := W_le (by omega)
  rw [W_one] at w1
  obtain ⟨b1, b2, b3, b4, b5, b6⟩ := ok.bnd
  unfold own
  by_cases a0 : A = []
  · rw [if_pos a0]
    have e : has c = false := by
      rcases kn with ⟨z, _⟩ | ⟨hm, hg, ht, hk⟩
      · rw [a0] at z
        cases z
      · subst a0
        have e : lastW k [] = (k, []) := rfl
        rw [e] at hm hg
        have hm : c.m = k + 1 := hm
        rw [hm] at ht
        have t0 : c.t = 0 := by omega
        obtain ⟨g0, r0⟩ := gst_nil hg rfl
        unfold has
        rw [t0, g0, r0]
        rfl
    rw [e]
    rfl
  · rw [if_neg a0, if_pos (ha a0)]
    have le : c.t + c.g + 1 ≤ W (k + 1) := by
      rcases kn with ⟨_, rfl⟩ | ⟨hm, hg, ht, hk⟩
      · show 0 + 0 + 1 ≤ W (k + 1)
        omega
      · have : W 1 ≤ W c.m := W_le (by omega)
        rw [W_one] at this
        omega
    rw [fb_id (by omega) le, fb_id (by omega) (by omega)]
    omega
end Bg
set_option Elab.async false
set_option linter.all false
set_option maxRecDepth 100000
set_option maxHeartbeats 4000000
/-! The law's own count of the names that begin so. -/
namespace LB
open PySem L2 Wk
open Bg (Bg Wo)
theorem snoc_ind {α : Type} {p : List α → Prop} (h0 : p []) (h1 : ∀ l a, p l → p (l ++ [a])) (l : List α) : p l := by
  have z : ∀ l : List α, p l.reverse := fun l => by
    induction l with
    | nil => exact h0
    | cons a l ih =>
      rw [List.reverse_cons]
      exact h1 _ _ ih
  have := z l.reverse
  rw [List.reverse_reverse] at this
  exact this
theorem strs_eqvA : ∀ a b : List Str, PyData.eqvAll (a.map PyData.str) (b.map PyData.str) = decide (a = b)
  | [], [] => rfl
  | [], b :: bs => rfl
  | a :: as, [] => rfl
  | a :: as, b :: bs => by
    rw [List.map_cons, List.map_cons, PyData.eqvAll, PyData.eqv, strs_eqvA as bs]
    by_cases h : a = b
    · subst h
      simp
    · simp [h]
theorem strs_eqv (a b : List Str) : PyData.eqv (.list (a.map PyData.str)) (.list (b.map PyData.str)) = decide (a = b) := by
  rw [PyData.eqv, strs_eqvA]
theorem inV_strs (x : Str) (l : List Str) : inV (.str x) (l.map V.str) = decide (x ∈ l) := by
  unfold inV
  induction l with
  | nil => rfl
  | cons y l ih =>
    rw [List.map_cons, List.any_cons, ih]
    show ((y == x) || decide (x ∈ l)) = _
    by_cases h : y = x
    · subst h
      simp
    · have : ¬ x = y := fun e => h e.symm
      simp [h, this]
theorem cut_fromJ (l : List V) (k : Nat) : cutV l (some (k : Int)) none = l.drop k := by
  unfold cutV
  rw [HT.sIx_nat, HT.sIx_none, List.take_of_length_le (by rw [List.length_drop]; exact Nat.le_refl _)]
  rcases Nat.le_total k l.length with h | h
  · rw [Nat.min_eq_left h]
  · rw [Nat.min_eq_right h, List.drop_of_length_le h, List.drop_of_length_le (Nat.le_refl _)]
theorem cut_toJ (l : List V) (k : Nat) : cutV l none (some (k : Int)) = l.take k := by
  unfold cutV
  rw [HT.sIx_nat, HT.sIx_none, List.drop_zero, Nat.sub_zero]
  rcases Nat.le_total k l.length with h | h
  · rw [Nat.min_eq_left h]
  · rw [Nat.min_eq_right h, List.take_of_length_le h, List.take_of_length_le (Nat.le_refl _)]
theorem cut_midJ {l : List Str} (h : l.length = 20) : cutV (l.map V.str) (some 1) (some 10) = ((l.drop 1).take 9).map V.str := by
  have e : cutV (l.map V.str) (some ((1 : Nat) : Int)) (some ((10 : Nat) : Int)) = ((l.drop 1).take 9).map V.str := by
    unfold cutV
    rw [HT.sIx_nat, HT.sIx_nat, List.length_map, h, List.map_take, List.map_drop]
    rfl
  exact e
theorem strs_flat (l : List Str) : (l.map V.str).all flatV = true := by
  rw [List.all_map]
  exact List.all_eq_true.mpr fun _ _ => rfl
section
variable {ones tens : List Str} {hun : Str} {scales : List Str}
theorem wd_inj (l1 : ones.length = 20) (l2 : tens.length = 8) (nd : (ones ++ (tens ++ hun :: scales)).Nodup) {x y : Wo} (hx : x ∈ Bg.all scales.length) (hy : y ∈ Bg.all scales.length) (h : wd ones tens hun scales x = wd ones tens hun scales y) : x = y := by
  have a := mean_wd l1 l2 nd hx
  have b := mean_wd l1 l2 nd hy
  rw [h, b] at a
  exact (Option.some.inj a).symm
theorem wd_scale {i : Nat} (h : i < scales.length) : scales[i]? = some (wd ones tens hun scales (.sc i)) := by
  unfold wd
  simp only
  rw [List.getElem?_eq_getElem h]
  rfl
theorem wd_tens {j : Nat} (l2 : tens.length = 8) (h : j < 8) : tens[j]? = some (wd ones tens hun scales (.low (10 * ((j : Int) + 2)))) := by
  unfold wd
  simp only
  rw [if_neg (by omega), show (10 * ((j : Int) + 2) / 10 - 2).toNat = j by omega, List.getElem?_eq_getElem (by omega)]
  rfl
theorem wd_ones {j : Nat} (l1 : ones.length = 20) (h : j < 20) : ones[j]? = some (wd ones tens hun scales (.low (j : Int))) := by
  unfold wd
  simp only
  rw [if_pos (by omega), Int.toNat_natCast, List.getElem?_eq_getElem (by omega)]
  rfl
theorem in_scales (l1 : ones.length = 20) (l2 : tens.length = 8) (nd : (ones ++ (tens ++ hun :: scales)).Nodup) {x : Wo} (hx : x ∈ Bg.all scales.length) : wd ones tens hun scales x ∈ scales ↔ ∃ i, i < scales.length ∧ x = .sc i := by
  constructor
  · intro h
    obtain ⟨i, hi, e⟩ := List.getElem_of_mem h
    have w := wd_scale (ones := ones) (tens := tens) (hun := hun) hi
    rw [List.getElem?_eq_getElem hi, e] at w
    exact ⟨i, hi, wd_inj l1 l2 nd hx (Bg.sc_all hi) (Option.some.inj w)⟩
  · rintro ⟨i, hi, rfl⟩
    exact List.mem_of_getElem? (wd_scale hi)
theorem in_tens (l1 : ones.length = 20) (l2 : tens.length = 8) (nd : (ones ++ (tens ++ hun :: scales)).Nodup) {x : Wo} (hx : x ∈ Bg.all scales.length) : wd ones tens hun scales x ∈ tens ↔ ∃ n : Int, n ≥ 20 ∧ x = .low n := by
  constructor
  · intro h
    obtain ⟨i, hi, e⟩ := List.getElem_of_mem h
    have w := wd_tens (ones := ones) (hun := hun) (scales := scales) l2 (j := i) (by omega)
    rw [List.getElem?_eq_getElem hi, e] at w
    exact ⟨10 * ((i : Int) + 2), by omega, wd_inj l1 l2 nd hx (Bg.ten_all (by omega) (by omega)) (Option.some.inj w)⟩
  · rintro ⟨n, hn, rfl⟩
    rcases Bg.all_ok hx with ⟨_, q⟩ | ⟨j, q1, q2, q3⟩
    · omega
    · have w := wd_tens (ones := ones) (hun := hun) (scales := scales) l2 (j := (j - 2).toNat) (by omega)
      rw [show 10 * ((((j - 2).toNat : Nat) : Int) + 2) = n by omega] at w
      exact List.mem_of_getElem? w
theorem in_digits (l1 : ones.length = 20) (l2 : tens.length = 8) (nd : (ones ++ (tens ++ hun :: scales)).Nodup) {x : Wo} (hx : x ∈ Bg.all scales.length) : wd ones tens hun scales x ∈ (ones.drop 1).take 9 ↔ ∃ n : Int, 1 ≤ n ∧ n ≤ 9 ∧ x = .low n := by
  constructor
  · intro h
    obtain ⟨i, hi, e⟩ := List.getElem_of_mem h
    rw [List.length_take, List.length_drop] at hi
    have w := wd_ones (tens := tens) (hun := hun) (scales := scales) l1 (j := i + 1) (by omega)
    have e2 : ones[i + 1]? = some (wd ones tens hun scales x) := by
      rw [List.getElem?_eq_getElem (by omega), ← e]
      congr 1
      simp [Nat.add_comm]
    rw [e2] at w
    exact ⟨((i + 1 : Nat) : Int), by omega, by omega, wd_inj l1 l2 nd hx (Bg.low_all (by omega) (by omega)) (Option.some.inj w)⟩
  · rintro ⟨n, h1, h2, rfl⟩
    have w := wd_ones (tens := tens) (hun := hun) (scales := scales) l1 (j := n.toNat) (by omega)
    rw [show ((n.toNat : Nat) : Int) = n by omega] at w
    refine List.mem_of_getElem? (i := n.toNat - 1) ?_
    rw [List.getElem?_take, if_pos (by omega), List.getElem?_drop, show 1 + (n.toNat - 1) = n.toNat by omega]
    exact w
theorem is_hun (l1 : ones.length = 20) (l2 : tens.length = 8) (nd : (ones ++ (tens ++ hun :: scales)).Nodup) {x : Wo} (hx : x ∈ Bg.all scales.length) : wd ones tens hun scales x = hun ↔ x = .hun :=
  ⟨fun h => wd_inj l1 l2 nd hx List.mem_cons_self h, fun h => by rw [h]; rfl⟩
theorem rows_inj (l1 : ones.length = 20) (l2 : tens.length = 8) (nd : (ones ++ (tens ++ hun :: scales)).Nodup) : ∀ {A B : List Wo}, (∀ x ∈ A, x ∈ Bg.all scales.length) → (∀ x ∈ B, x ∈ Bg.all scales.length) → A.map (wd ones tens hun scales) = B.map (wd ones tens hun scales) → A = B
  | [], [], _, _, _ => rfl
  | [], _ :: _, _, _, h => nomatch h
  | _ :: _, [], _, _, h => nomatch h
  | x :: A, y :: B, hA, hB, h => by
    rw [List.map_cons, List.map_cons] at h
    injection h with h1 h2
    rw [wd_inj l1 l2 nd (hA x List.mem_cons_self) (hB y List.mem_cons_self) h1, rows_inj l1 l2 nd (fun z hz => hA z (List.mem_cons_of_mem _ hz)) (fun z hz => hB z (List.mem_cons_of_mem _ hz)) h2]
end
theorem _root_.Bg.last_sub {k : Nat} : ∀ {A : List Wo} {x : Wo}, x ∈ (Bg.lastW k A).2 → x ∈ A ∧ ∀ i, x ≠ .sc i := by
  intro A
  refine snoc_ind (p := fun A => ∀ {x : Wo}, x ∈ (Bg.lastW k A).2 → x ∈ A ∧ ∀ i, x ≠ .sc i) (fun {x} h => nomatch h) ?_ A
  · intro A y ih x h
    rw [Bg.lastW_snoc] at h
    have other : x ∈ (Bg.lastW k A).2 ++ [y] → (∀ i, y ≠ .sc i) → x ∈ A ++ [y] ∧ ∀ i, x ≠ .sc i := fun h hy => by
      rcases List.mem_append.mp h with h | h
      · exact ⟨List.mem_append_left _ (ih h).1, (ih h).2⟩
      · have e := List.mem_singleton.mp h
        subst e
        exact ⟨List.mem_append_right _ List.mem_cons_self, hy⟩
    cases y with
    | sc i => cases h
    | low n => exact other h (fun _ => by simp)
    | hun => exact other h (fun _ => by simp)
theorem _root_.Bg.last_le {k : Nat} : ∀ {A : List Wo}, (∀ x ∈ A, x ∈ Bg.all k) → (Bg.lastW k A).1 ≤ k := by
  intro A
  refine snoc_ind (p := fun A => (∀ x ∈ A, x ∈ Bg.all k) → (Bg.lastW k A).1 ≤ k) (fun _ => Nat.le_refl _) ?_ A
  · intro A y ih h
    have ih := ih fun x hx => h x (List.mem_append_left _ hx)
    rw [Bg.lastW_snoc]
    cases y with
    | sc i =>
      have hm := h (.sc i) (List.mem_append_right _ List.mem_cons_self)
      unfold Bg.all Bg.lows Bg.tens Bg.scs at hm
      simp at hm
      show i ≤ k
      omega
    | low n => exact ih
    | hun => exact ih
theorem _root_.Bg.sc_in {k i : Nat} (h : Wo.sc i ∈ Bg.all k) : i < k := by
  unfold Bg.all Bg.lows Bg.tens Bg.scs at h
  simp at h
  exact h
section
variable {P : Program} {w : World} {K : PySem.W.Frag} {mg : Str → Option Value} {base : Heap}
end
end LB
set_option Elab.async false
set_option linter.all false
set_option maxRecDepth 100000
set_option maxHeartbeats 4000000
/-! How many names begin so, counted one by one. -/
namespace LB
open PySem L2 Wk
open Bg (Bg Wo)
variable {ones tens : List Str} {hun : Str} {scales : List Str} {ws : List (Str × Wo)}
theorem sumL_two {α : Type} {f : α → Int} : ∀ {l : List α}, (∀ x ∈ l, 0 ≤ f x) → ∀ x ∈ l, ∀ y ∈ l, x ≠ y → f x + f y ≤ Bg.sumL f l
  | a :: l, h, x, hx, y, hy, ne => by
    have tail := fun z hz => h z (List.mem_cons_of_mem _ hz)
    have a0 := h a List.mem_cons_self
    show f x + f y ≤ f a + Bg.sumL f l
    rcases List.mem_cons.mp hx with e1 | hx2
    · rcases List.mem_cons.mp hy with e2 | hy2
      · exact absurd (e1.trans e2.symm) ne
      · have := Bg.sumL_ge tail y hy2
        rw [e1]
        omega
    · rcases List.mem_cons.mp hy with e2 | hy2
      · have := Bg.sumL_ge tail x hx2
        rw [e2]
        omega
      · have := sumL_two tail x hx2 y hy2 ne
        omega
theorem hit_zero (V : Voc ones tens hun scales ws) {m : Int} : ∀ (A : List Wo) {b c : Bg}, Bg.Ok b → b.m ≤ scales.length + 1 → (∀ x ∈ A, x ∈ Bg.all scales.length) → Bg.folL b A = some c → Bg.cf (Bg.fb m m) b = 0 → Bg.cf (Bg.fb m m) c = 0
  | [], b, c, _, _, _, hf, z => by
    cases hf
    exact z
  | x :: A, b, c, ok, bm, hA, hf, z => by
    cases e : Bg.fol b x with
    | none =>
      unfold Bg.folL at hf
      rw [e] at hf
      cases hf
    | some d =>
      rw [Bg.folL_one e] at hf
      have hx := hA x List.mem_cons_self
      have hs := steps_of_mem (V.mem hx) e
      obtain ⟨okd, dm⟩ := step_ok V ok hs
      have own0 : 0 ≤ Bg.own (Bg.fb m m) b := Bg.own_nonneg (Int.le_refl m)
      have ge := Bg.sumL_ge (step_nneg V (lo := m) (hi := m) ok) _ hs
      have pos := step_nneg V (lo := m) (hi := m) ok _ hs
      have eq := hit_own (k := 0) V (m := m) ok bm
      have zd : Bg.cf (Bg.fb m m) d = 0 := by
        have ge : Bg.cf (Bg.fb m m) d ≤ Bg.sumL (cfS (Bg.fb m m)) (stepsOf b ws) := ge
        have pos : 0 ≤ Bg.cf (Bg.fb m m) d := pos
        omega
      exact hit_zero V A okd (Nat.le_trans dm bm) (fun y hy => hA y (List.mem_cons_of_mem _ hy)) hf zd
theorem hit_pre (V : Voc ones tens hun scales ws) {m : Int} : ∀ (A B : List Wo) {b c d : Bg}, Bg.Ok b → b.m ≤ scales.length + 1 → (∀ x ∈ A, x ∈ Bg.all scales.length) → (∀ x ∈ B, x ∈ Bg.all scales.length) → Bg.folL b A = some c → Bg.folL b B = some d →
    Bg.has d = true → d.t + d.g = m → Bg.cf (Bg.fb m m) b = 1 → Bg.cf (Bg.fb m m) c = if B.take A.length = A then 1 else 0
  | [], B, b, c, d, _, _, _, _, hf, _, _, _, one => by
    cases hf
    rw [if_pos (by rfl)]
    exact one
  | x :: A, B, b, c, d, ok, bm, hA, hB, hf, hg, hd, nd, one => by
    cases e : Bg.fol b x with
    | none =>
      unfold Bg.folL at hf
      rw [e] at hf
      cases hf
    | some f =>
      rw [Bg.folL_one e] at hf
      have hx := hA x List.mem_cons_self
      have hA' := fun y hy => hA y (List.mem_cons_of_mem _ hy)
      have hs := steps_of_mem (V.mem hx) e
      obtain ⟨okf, fm⟩ := step_ok V ok hs
      have own0 : 0 ≤ Bg.own (Bg.fb m m) b := Bg.own_nonneg (Int.le_refl m)
      have ge := Bg.sumL_ge (step_nneg V (lo := m) (hi := m) ok) _ hs
      have pos := step_nneg V (lo := m) (hi := m) ok _ hs
      have eq := hit_own (k := 0) V (m := m) ok bm
      have ge : Bg.cf (Bg.fb m m) f ≤ Bg.sumL (cfS (Bg.fb m m)) (stepsOf b ws) := ge
      have pos : 0 ≤ Bg.cf (Bg.fb m m) f := pos
      cases B with
      | nil =>
        cases hg
        have o1 : Bg.own (Bg.fb m m) b = 1 := by
          rw [Bg.one_own, if_pos ⟨hd, nd⟩]
        rw [if_neg (by simp)]
        have zf : Bg.cf (Bg.fb m m) f = 0 := by omega
        exact hit_zero V A okf (Nat.le_trans fm bm) hA' hf zf
      | cons y B =>
        cases e2 : Bg.fol b y with
        | none =>
          unfold Bg.folL at hg
          rw [e2] at hg
          cases hg
        | some g =>
          rw [Bg.folL_one e2] at hg
          have hy := hB y List.mem_cons_self
          have hB' := fun y hy => hB y (List.mem_cons_of_mem _ hy)
          have hs2 := steps_of_mem (V.mem hy) e2
          obtain ⟨okg, gm⟩ := step_ok V ok hs2
          have ge2 : Bg.cf (Bg.fb m m) g ≤ Bg.sumL (cfS (Bg.fb m m)) (stepsOf b ws) := Bg.sumL_ge (step_nneg V (lo := m) (hi := m) ok) _ hs2
          have h1 : 1 ≤ Bg.cf (Bg.fb m m) g := hit_path V B okg (Nat.le_trans gm bm) hB' hg hd nd
          by_cases xy : x = y
          · subst xy
            rw [e] at e2
            cases e2
            have of : Bg.cf (Bg.fb m m) f = 1 := by omega
            rw [hit_pre V A B okf (Nat.le_trans fm bm) hA' hB' hf hg hd nd of]
            by_cases z : B.take A.length = A
            · rw [if_pos z, if_pos (by rw [List.length_cons, List.take_succ_cons, z])]
            · rw [if_neg z, if_neg (by rw [List.length_cons, List.take_succ_cons]; intro q; exact z (List.cons.inj q).2)]
          · have wne : (wd ones tens hun scales x, f) ≠ (wd ones tens hun scales y, g) := fun q => xy (V.inj hx hy (Prod.mk.inj q).1)
            have two := sumL_two (step_nneg V (lo := m) (hi := m) ok) _ hs _ hs2 wne
            have two : Bg.cf (Bg.fb m m) f + Bg.cf (Bg.fb m m) g ≤ Bg.sumL (cfS (Bg.fb m m)) (stepsOf b ws) := two
            rw [if_neg (by rw [List.length_cons, List.take_succ_cons]; intro q; exact xy (List.cons.inj q).1.symm)]
            have zf : Bg.cf (Bg.fb m m) f = 0 := by omega
            exact hit_zero V A okf (Nat.le_trans fm bm) hA' hf zf
theorem cf_none (c : Bg) : Bg.cf (fun _ => 0) c = 0 := by
  have h := Bg.cf_add (fun _ => 0) (fun _ => 0) c
  have e : (fun x : Int => (fun _ => 0 : Int → Int) x + (fun _ => 0 : Int → Int) x) = fun _ => 0 := by
    funext x
    rfl
  rw [e] at h
  omega
theorem cf_sums (f : Nat → Int → Int) (c : Bg) : ∀ n, Bg.cf (fun x => Bg.sumR (fun i => f i x) n) c = Bg.sumR (fun i => Bg.cf (f i) c) n
  | 0 => cf_none c
  | n + 1 => by
    show Bg.cf (fun x => Bg.sumR (fun i => f i x) n + f n x) c = Bg.sumR (fun i => Bg.cf (f i) c) n + Bg.cf (f n) c
    rw [Bg.cf_add, cf_sums f c n]
theorem sumR_count (p : Nat → Bool) : ∀ n, Bg.sumR (fun i => if p i = true then 1 else 0) n = (((List.range n).filter p).length : Int)
  | 0 => rfl
  | n + 1 => by
    show Bg.sumR (fun i => if p i = true then 1 else 0) n + (if p n = true then 1 else 0) = _
    rw [sumR_count p n, List.range_succ, List.filter_append, List.length_append, List.filter_cons]
    cases p n
    · simp
    · simp
/-- the names below the limit that begin so, counted one by one -/
theorem cf_names (V : Voc ones tens hun scales ws) (nd : (ones ++ (tens ++ hun :: scales)).Nodup) {A : List Wo} {c : Bg} (hA : ∀ x ∈ A, x ∈ Bg.all scales.length) (hf : Bg.folL (Bg.start scales.length) A = some c) :
    Bg.cf (Bg.fb 0 (Bg.W (scales.length + 1) - 1)) c = (((List.range (Bg.W (scales.length + 1)).toNat).filter fun i : Nat => decide ((nmL ones tens hun scales (i : Int)).take A.length = A.map (wd ones tens hun scales))).length : Int) := by
  have wk := Bg.W_pos (scales.length + 1)
  have e := Bg.fb_sum 0 (Bg.W (scales.length + 1)).toNat
  rw [show (0 : Int) + (((Bg.W (scales.length + 1)).toNat : Nat) : Int) - 1 = Bg.W (scales.length + 1) - 1 by omega] at e
  have e' : Bg.fb 0 (Bg.W (scales.length + 1) - 1) = fun x => Bg.sumR (fun i => Bg.fb (0 + (i : Int)) (0 + (i : Int)) x) (Bg.W (scales.length + 1)).toNat := e
  rw [e', cf_sums, ← sumR_count]
  refine Bg.sumR_congr _ fun i hi => ?_
  have i1 : (i : Int) < Bg.W (scales.length + 1) := by omega
  obtain ⟨d, hd, hasd, dn⟩ := Bg.name_path (k := scales.length) (Int.natCast_nonneg i) i1
  have one : Bg.cf (Bg.fb (i : Int) (i : Int)) (Bg.start scales.length) = 1 := by
    rw [Bg.start_all (Int.natCast_nonneg i) (Int.le_refl _) i1]
    omega
  have hN := Bg.name_all (n := (i : Int)) (k := scales.length)
  rw [Int.zero_add, hit_pre V A _ (Bg.start_ok _) (Nat.le_refl _) hA hN hf hd hasd dn one]
  unfold nmL
  rw [← List.map_take]
  by_cases z : (Bg.nameW (i : Int) (scales.length + 1)).take A.length = A
  · rw [if_pos z, if_pos (decide_eq_true (by rw [z]))]
  · rw [if_neg z, if_neg]
    intro q
    exact z (rows_inj V.l1 V.l2 nd (fun x hx => hN x (List.mem_of_mem_take hx)) hA (of_decide_eq_true q))
end LB
set_option Elab.async false
set_option linter.all false
set_option maxRecDepth 100000
set_option maxHeartbeats 4000000
/-! Beginnings of names below 1000, and the words that follow: mathematics. -/
namespace Bg
def isSc : Wo → Bool
  | .sc _ => true
  | _ => false
theorem fol_low0 {b d : Bg} (h : fol b (.low 0) = some d) : has b = false ∧ d = zero := by
  unfold fol at h
  simp only at h
  rw [if_pos trivial] at h
  cases e : has b with
  | true =>
    rw [e] at h
    cases h
  | false =>
    rw [e] at h
    cases h
    exact ⟨rfl, rfl⟩
/-- words that are no scale words: by the open group alone -/
theorem fol_group {b d : Bg} {x : Wo} (hx : isSc x = false) (h0 : x ≠ .low 0) (h : fol b x = some d) : ∃ g r, d = ⟨b.t, g, r, b.m⟩ ∧ ∀ t m, fol ⟨t, b.g, b.r, m⟩ x = some ⟨t, g, r, m⟩ := by
  cases x with
  | low n =>
    have n0 : n ≠ 0 := fun z => h0 (by rw [z])
    unfold fol at h ⊢
    simp only at h ⊢
    rw [if_neg n0] at h
    by_cases z2 : n ≥ 10
    · rw [if_pos z2] at h
      by_cases z3 : b.r = 100
      · rw [if_pos z3] at h
        cases h
        refine ⟨_, _, rfl, fun t m => ?_⟩
        rw [if_neg n0, if_pos z2, if_pos z3]
      · rw [if_neg z3] at h
        cases h
    · rw [if_neg z2] at h
      by_cases z3 : b.r ≥ 10
      · rw [if_pos z3] at h
        cases h
        refine ⟨_, _, rfl, fun t m => ?_⟩
        rw [if_neg n0, if_neg z2, if_pos z3]
      · rw [if_neg z3] at h
        cases h
  | hun =>
    unfold fol at h ⊢
    simp only at h ⊢
    by_cases z : 0 < b.g ∧ b.g < 10
    · rw [if_pos z] at h
      cases h
      refine ⟨_, _, rfl, fun t m => ?_⟩
      rw [if_pos z]
    · rw [if_neg z] at h
      cases h
  | sc i => cases hx
theorem fol_zero0 (x : Wo) : fol zero x = none := by
  cases x with
  | low n =>
    unfold fol
    simp only
    by_cases z : n = 0
    · rw [if_pos z]
      rfl
    · rw [if_neg z]
      by_cases z2 : n ≥ 10
      · rw [if_pos z2, if_neg (by show ¬ (1 : Int) = 100; decide)]
      · rw [if_neg z2, if_neg (by show ¬ (1 : Int) ≥ 10; decide)]
  | hun =>
    unfold fol
    simp only
    rw [if_neg (by show ¬ ((0 : Int) < 0 ∧ (0 : Int) < 10); decide)]
  | sc i =>
    unfold fol
    simp only
    rw [if_neg (by show ¬ ((0 : Int) > 0 ∧ _); intro h; exact absurd h.1 (by decide))]
/-- what the words of the open group lead to, alone -/
def Gr (k : Nat) (A : List Wo) (c : Bg) : Prop := (A = [.low 0] ∧ c = zero) ∨ folL (start k) (lastW k A).2 = some ⟨0, c.g, c.r, k + 1⟩
theorem gr_start (k : Nat) : Gr k [] (start k) := .inr rfl
theorem gr_step {k : Nat} {A : List Wo} {c d : Bg} {x : Wo} (ha : A ≠ [] → has c = true) (gr : Gr k A c) (h : fol c x = some d) : Gr k (A ++ [x]) d := by
  rcases gr with ⟨rfl, rfl⟩ | gr
  · rw [fol_zero0] at h
    cases h
  · by_cases x0 : x = .low 0
    · subst x0
      obtain ⟨h1, h2⟩ := fol_low0 h
      have an : A = [] := by
        cases A with
        | nil => rfl
        | cons y A =>
          rw [ha (by simp)] at h1
          cases h1
      subst an
      exact .inl ⟨rfl, h2⟩
    · cases hs : isSc x with
      | true =>
        cases x with
        | low n => cases hs
        | hun => cases hs
        | sc i =>
          refine .inr ?_
          rw [lastW_snoc]
          unfold fol at h
          simp only at h
          by_cases z : c.g > 0 ∧ i + 1 < c.m
          · rw [if_pos z] at h
            cases h
            rfl
          · rw [if_neg z] at h
            cases h
      | false =>
        obtain ⟨g, r, rfl, hf⟩ := fol_group hs x0 h
        refine .inr ?_
        have e : (lastW k (A ++ [x])).2 = (lastW k A).2 ++ [x] := by
          rw [lastW_snoc]
          cases x with
          | low n => rfl
          | hun => rfl
          | sc i => cases hs
        rw [e, folL_app, gr]
        show folL ⟨0, c.g, c.r, k + 1⟩ [x] = _
        rw [folL_one (hf 0 (k + 1))]
        rfl
theorem gr_path {k : Nat} : ∀ (B A : List Wo) {c d : Bg}, Ok c → (A ≠ [] → has c = true) → Gr k A c → (∀ x ∈ B, WOk x) → folL c B = some d → Gr k (A ++ B) d
  | [], A, c, d, _, _, g, _, h => by
    cases h
    rw [List.append_nil]
    exact g
  | x :: B, A, c, d, ok, ha, g, hB, h => by
    cases e : fol c x with
    | none =>
      unfold folL at h
      rw [e] at h
      cases h
    | some f =>
      rw [folL_one e] at h
      have hx := hB x List.mem_cons_self
      have := gr_path B (A ++ [x]) (fol_ok ok hx e) (fun _ => fol_has ok hx e) (gr_step ha g e) (fun y hy => hB y (List.mem_cons_of_mem _ hy)) h
      rwa [List.append_assoc] at this
/-- no scale words below 1000 -/
theorem name_low {n : Int} {k : Nat} (n0 : 0 ≤ n) (n1 : n < 1000) : ∀ x ∈ nameW n (k + 1), isSc x = false := by
  intro x hx
  unfold nameW at hx
  by_cases z : n = 0
  · rw [if_pos z] at hx
    rw [List.mem_singleton.mp hx]
    rfl
  · rw [if_neg z] at hx
    have e := spW_top (i := 1) n0 (by show n < W 1; rw [W_one]; exact n1) k
    rw [Nat.add_comm 1 k] at e
    rw [e] at hx
    have hx : x ∈ partW n 0 ++ spW n 0 := hx
    rw [show spW n 0 = [] from rfl, List.append_nil] at hx
    unfold partW at hx
    split at hx
    · rw [if_neg (by decide), List.append_nil] at hx
      unfold groupW at hx
      rcases List.mem_append.mp hx with hx | hx
      · split at hx
        · rcases List.mem_cons.mp hx with rfl | hx
          · rfl
          · rw [List.mem_singleton.mp hx]
            rfl
        · cases hx
      · split at hx
        · rcases List.mem_cons.mp hx with rfl | hx
          · rfl
          · split at hx
            · rw [List.mem_singleton.mp hx]
              rfl
            · cases hx
        · split at hx
          · rw [List.mem_singleton.mp hx]
            rfl
          · cases hx
    · cases hx
/-- without scale words the total stays -/
theorem low_path {k : Nat} : ∀ (A : List Wo) {c d : Bg}, (∀ x ∈ A, isSc x = false) → folL c A = some d → (c.t = 0 ∧ c.m = k + 1) → (d.t = 0 ∧ (d = zero ∨ d.m = k + 1))
  | [], c, d, _, h, hc => by
    cases h
    exact ⟨hc.1, .inr hc.2⟩
  | x :: A, c, d, hA, h, hc => by
    cases e : fol c x with
    | none =>
      unfold folL at h
      rw [e] at h
      cases h
    | some f =>
      rw [folL_one e] at h
      by_cases x0 : x = .low 0
      · subst x0
        obtain ⟨_, rfl⟩ := fol_low0 e
        cases A with
        | nil =>
          cases h
          exact ⟨rfl, .inl rfl⟩
        | cons y A =>
          unfold folL at h
          rw [fol_zero0] at h
          cases h
      · obtain ⟨g, r, rfl, _⟩ := fol_group (hA x List.mem_cons_self) x0 e
        exact low_path A (fun y hy => hA y (List.mem_cons_of_mem _ hy)) h hc
end Bg
namespace LB
open PySem L2 Wk
open Bg (Bg Wo)
section
variable {ones tens : List Str} {hun : Str} {scales : List Str} {ws : List (Str × Wo)}
/-- words that lead somewhere are a name -/
theorem name_of_path (V : Voc ones tens hun scales ws) {A : List Wo} {c : Bg} (hA : ∀ x ∈ A, x ∈ Bg.all scales.length) (ne : A ≠ []) (h : Bg.folL (Bg.start scales.length) A = some c) (c1 : c.t + c.g < Bg.W (scales.length + 1)) :
    Bg.nameW (c.t + c.g) (scales.length + 1) = A := by
  obtain ⟨ok, hs⟩ := Bg.folL_ok (Bg.start_ok scales.length) (fun x hx => Bg.all_ok (hA x hx)) h
  have hs := hs ne
  obtain ⟨h1, h2, h3, h4⟩ := ok.bnd
  have n0 : 0 ≤ c.t + c.g := by omega
  obtain ⟨d, hd, d2, d3⟩ := Bg.name_path n0 c1
  have one : Bg.cf (Bg.fb (c.t + c.g) (c.t + c.g)) (Bg.start scales.length) = 1 := by
    have := Bg.start_all (k := scales.length) n0 (Int.le_refl _) c1
    omega
  have sm : (Bg.start scales.length).m ≤ scales.length + 1 := Nat.le_refl _
  have e1 := hit_pre V A _ (Bg.start_ok _) sm hA Bg.name_all h hd d2 d3 one
  have e2 := hit_pre V (Bg.nameW (c.t + c.g) (scales.length + 1)) A (Bg.start_ok _) sm Bg.name_all hA hd h hs rfl one
  have p1 := hit_path V [] (m := c.t + c.g) (b := c) (c := c) ok (by
    have := (Bg.kn_path A [] (Bg.start_ok scales.length) (fun z => absurd rfl z) (Bg.kn_start _) hA h fun o w f => Bg.fol_has o w f).1
    rcases this with ⟨_, rfl⟩ | ⟨q1, _, _, q4⟩
    · exact Nat.zero_le _
    · rw [q1, List.nil_append] at *
      have := Bg.last_le hA
      omega) (fun _ z => nomatch z) rfl hs rfl
  have p2 := hit_path V [] (m := c.t + c.g) (b := d) (c := d) (Bg.folL_ok (Bg.start_ok scales.length) (fun x hx => Bg.all_ok (Bg.name_all x hx)) hd).1 (by
    have := (Bg.kn_path _ [] (Bg.start_ok scales.length) (fun z => absurd rfl z) (Bg.kn_start _) Bg.name_all hd fun o w f => Bg.fol_has o w f).1
    rcases this with ⟨_, rfl⟩ | ⟨q1, _, _, q4⟩
    · exact Nat.zero_le _
    · rw [q1]
      omega) (fun _ z => nomatch z) rfl d2 d3
  have t1 : (Bg.nameW (c.t + c.g) (scales.length + 1)).take A.length = A := by
    by_cases z : (Bg.nameW (c.t + c.g) (scales.length + 1)).take A.length = A
    · exact z
    · rw [if_neg z] at e1
      omega
  have t2 : A.take (Bg.nameW (c.t + c.g) (scales.length + 1)).length = Bg.nameW (c.t + c.g) (scales.length + 1) := by
    by_cases z : A.take (Bg.nameW (c.t + c.g) (scales.length + 1)).length = Bg.nameW (c.t + c.g) (scales.length + 1)
    · exact z
    · rw [if_neg z] at e2
      omega
  have l1 := congrArg List.length t1
  have l2 := congrArg List.length t2
  rw [List.length_take] at l1 l2
  rw [← t1, List.take_of_length_le (by omega)]
end
end LB
set_option Elab.async false
set_option linter.all false
set_option maxRecDepth 100000
set_option maxHeartbeats 4000000
/-! What the names below 1000 tell of the words that follow: mathematics. -/
namespace Bg
theorem folL_last {b c d : Bg} {A : List Wo} {x : Wo} (h : folL b A = some c) : folL b (A ++ [x]) = some d ↔ fol c x = some d := by
  rw [folL_app, h]
  show folL c [x] = some d ↔ _
  unfold folL
  cases fol c x with
  | none => exact ⟨fun z => z, fun z => z⟩
  | some e => exact ⟨fun z => z, fun z => z⟩
theorem gst_pos {L : List Wo} {g r : Int} (h : Gst L g r) (ne : L ≠ []) : 0 < g := by
  cases h with
  | nil => exact absurd rfl ne
  | dig h1 _ => omega
  | hun h1 => omega
  | ten _ _ h1 => omega
  | end_ _ _ h1 _ => omega
theorem gst_zero {L : List Wo} {g r : Int} (h : Gst L g r) : L ≠ [.low 0] := by
  intro e
  cases h with
  | nil => cases e
  | dig h1 _ =>
    have := Wo.low.inj (List.cons.inj e).1
    omega
  | @hun l _ h1 =>
    have := congrArg List.getLast? e
    rw [List.getLast?_append] at this
    cases this
  | @ten l _ _ h0 h2 h1 =>
    have := congrArg List.getLast? e
    rw [List.getLast?_append] at this
    have := Wo.low.inj (Option.some.inj this)
    omega
  | @end_ l n _ h0 h2 h1 _ =>
    have := congrArg List.getLast? e
    rw [List.getLast?_append] at this
    have := Wo.low.inj (Option.some.inj this)
    omega
theorem fol_start_sc (k i : Nat) : fol (start k) (.sc i) = none := by
  unfold fol
  simp only
  rw [if_neg (by show ¬ ((0 : Int) > 0 ∧ _); intro h; exact absurd h.1 (by decide))]
/-- THE WORDS THAT FOLLOW, by the words of the open group -/
theorem due_set {k : Nat} {A : List Wo} {c : Bg} (hA : ∀ x ∈ A, x ∈ all k) (h : folL (start k) A = some c) (w : Wo) :
    (∃ d, fol c w = some d) ↔ if (lastW k A).2 = [] then (isSc w = false ∧ (∃ d, folL (start k) [w] = some d) ∧ (A = [] ∨ w ≠ .low 0))
      else (isSc w = false ∧ ∃ d, folL (start k) ((lastW k A).2 ++ [w]) = some d) ∨ ((lastW k A).2 ≠ [.low 0] ∧ ∃ i, w = .sc i ∧ i < (lastW k A).1) := by
  have kn := (kn_path A [] (start_ok k) (fun z => absurd rfl z) (kn_start _) hA h fun o w f => fol_has o w f).1
  have gr := gr_path A [] (start_ok k) (fun z => absurd rfl z) (gr_start _) (fun x hx => all_ok (hA x hx)) h
  have hh := (folL_ok (start_ok k) (fun x hx => all_ok (hA x hx)) h).2
  rw [List.nil_append] at kn gr
  by_cases a0 : A = [.low 0]
  · subst a0
    have cz : c = zero := by
      rw [folL_one (show fol (start k) (.low 0) = some zero from by unfold fol; simp only; rw [if_pos trivial]; rfl)] at h
      exact (Option.some.inj h).symm
    subst cz
    have lw : (lastW k [Wo.low 0]).2 = [Wo.low 0] := rfl
    rw [lw, if_neg (show ¬ ([Wo.low 0] = []) by simp)]
    constructor
    · rintro ⟨d, e⟩
      rw [fol_zero0] at e
      cases e
    · rintro (⟨_, d, e⟩ | ⟨e, _⟩)
      · have e : folL (start k) ([Wo.low 0] ++ [w]) = some d := e
        rw [folL_last h, fol_zero0] at e
        cases e
      · exact absurd rfl e
  · have kn : c.m = (lastW k A).1 + 1 ∧ Gst (lastW k A).2 c.g c.r ∧ c.t + W c.m ≤ W (k + 1) ∧ (lastW k A).1 ≤ k := kn.resolve_left fun z => a0 z.1
    have gr : folL (start k) (lastW k A).2 = some ⟨0, c.g, c.r, k + 1⟩ := gr.resolve_left fun z => a0 z.1
    obtain ⟨hm, hg, _, _⟩ := kn
    by_cases l0 : (lastW k A).2 = []
    · rw [if_pos l0]
      obtain ⟨g0, r0⟩ := gst_nil hg l0
      have one : ∀ d, folL (start k) [w] = some d ↔ fol (start k) w = some d := fun d => folL_last (A := []) rfl
      simp only [one]
      cases hs : isSc w with
      | true =>
        cases w with
        | low n => cases hs
        | hun => cases hs
        | sc i =>
          constructor
          · rintro ⟨d, e⟩
            unfold fol at e
            simp only at e
            rw [if_neg (by omega)] at e
            cases e
          · rintro ⟨z, _⟩
            cases z
      | false =>
        by_cases w0 : w = .low 0
        · subst w0
          constructor
          · rintro ⟨d, e⟩
            obtain ⟨h1, _⟩ := fol_low0 e
            have an : A = [] := by
              cases A with
              | nil => rfl
              | cons y A =>
                rw [hh (by simp)] at h1
                cases h1
            subst an
            cases h
            exact ⟨rfl, ⟨d, e⟩, .inl rfl⟩
          · rintro ⟨_, ⟨d, e⟩, z⟩
            rcases z with rfl | z
            · cases h
              exact ⟨d, e⟩
            · exact absurd rfl z
        · have e1 : start k = ⟨0, c.g, c.r, k + 1⟩ := by
            rw [g0, r0]
            rfl
          constructor
          · rintro ⟨d, e⟩
            obtain ⟨g, r, _, f⟩ := fol_group hs w0 e
            exact ⟨rfl, ⟨_, by rw [e1]; exact f 0 (k + 1)⟩, .inr w0⟩
          · rintro ⟨_, ⟨d, e⟩, _⟩
            rw [e1] at e
            obtain ⟨g, r, _, f⟩ := fol_group hs w0 e
            exact ⟨_, f c.t c.m⟩
    · rw [if_neg l0]
      have gp := gst_pos hg l0
      have an : A ≠ [] := by
        rintro rfl
        exact l0 rfl
      simp only [folL_last gr]
      cases hs : isSc w with
      | true =>
        cases w with
        | low n => cases hs
        | hun => cases hs
        | sc i =>
          constructor
          · rintro ⟨d, e⟩
            unfold fol at e
            simp only at e
            by_cases z : c.g > 0 ∧ i + 1 < c.m
            · exact .inr ⟨gst_zero hg, i, rfl, by omega⟩
            · rw [if_neg z] at e
              cases e
          · rintro (⟨z, _⟩ | ⟨_, j, e, hj⟩)
            · cases z
            · cases e
              refine ⟨⟨c.t + c.g * W (i + 1), 0, 100, i + 1⟩, ?_⟩
              unfold fol
              simp only
              rw [if_pos ⟨gp, by omega⟩]
      | false =>
        by_cases w0 : w = .low 0
        · subst w0
          constructor
          · rintro ⟨d, e⟩
            obtain ⟨h1, _⟩ := fol_low0 e
            rw [hh an] at h1
            cases h1
          · rintro (⟨_, d, e⟩ | ⟨_, j, e, _⟩)
            · obtain ⟨h1, _⟩ := fol_low0 e
              unfold has at h1
              rw [decide_eq_true (by show (0 : Int) + c.g > 0; omega)] at h1
              cases h1
            · cases e
        · constructor
          · rintro ⟨d, e⟩
            obtain ⟨g, r, _, f⟩ := fol_group hs w0 e
            exact .inl ⟨rfl, _, f 0 (k + 1)⟩
          · rintro (⟨_, d, e⟩ | ⟨_, j, rfl, _⟩)
            · obtain ⟨g, r, _, f⟩ := fol_group hs w0 e
              exact ⟨_, f c.t c.m⟩
            · cases hs
end Bg
namespace LB
open PySem L2 Wk
open Bg (Bg Wo)
section
variable {ones tens : List Str} {hun : Str} {scales : List Str} {ws : List (Str × Wo)}
theorem take_path {k : Nat} {n : Int} (n0 : 0 ≤ n) (n1 : n < Bg.W (k + 1)) (c : Nat) : ∃ d, Bg.folL (Bg.start k) ((Bg.nameW n (k + 1)).take c) = some d := by
  obtain ⟨e, he, _⟩ := Bg.name_path n0 n1
  have es := List.take_append_drop c (Bg.nameW n (k + 1))
  rw [← es, Bg.folL_app] at he
  cases hc : Bg.folL (Bg.start k) ((Bg.nameW n (k + 1)).take c) with
  | none =>
    rw [hc] at he
    cases he
  | some d => exact ⟨d, rfl⟩
theorem W_thou (k : Nat) : 1000 ≤ Bg.W (k + 1) := by
  have := Bg.W_pos k
  rw [Bg.W_succ]
  omega
/-- words without scale words that lead somewhere: the name of a number below 1000 -/
theorem low_name (V : Voc ones tens hun scales ws) {A : List Wo} {c : Bg} (hA : ∀ x ∈ A, x ∈ Bg.all scales.length) (lo : ∀ x ∈ A, Bg.isSc x = false) (ne : A ≠ []) (h : Bg.folL (Bg.start scales.length) A = some c) :
    ∃ n : Nat, n < 1000 ∧ Bg.nameW (n : Int) (scales.length + 1) = A := by
  obtain ⟨ok, hs⟩ := Bg.folL_ok (Bg.start_ok scales.length) (fun x hx => Bg.all_ok (hA x hx)) h
  obtain ⟨h1, h2, h3, h4⟩ := ok.bnd
  obtain ⟨t0, _⟩ := Bg.low_path (k := scales.length) A lo h ⟨rfl, rfl⟩
  have w := W_thou scales.length
  have e := name_of_path V hA ne h (by omega)
  refine ⟨(c.t + c.g).toNat, by omega, ?_⟩
  rw [show (((c.t + c.g).toNat : Nat) : Int) = c.t + c.g by omega]
  exact e
theorem tree_next (V : Voc ones tens hun scales ws) {L : List Wo} (hL : ∀ x ∈ L, x ∈ Bg.all scales.length) (lo : ∀ x ∈ L, Bg.isSc x = false) {w : Wo} (hw : w ∈ Bg.all scales.length) :
    (∃ n c : Nat, n < 1000 ∧ (Bg.nameW (n : Int) (scales.length + 1)).take c = L ∧ (Bg.nameW (n : Int) (scales.length + 1))[c]? = some w) ↔ (Bg.isSc w = false ∧ ∃ d, Bg.folL (Bg.start scales.length) (L ++ [w]) = some d) := by
  constructor
  · rintro ⟨n, c, hn, e1, e2⟩
    have t : (Bg.nameW (n : Int) (scales.length + 1)).take (c + 1) = L ++ [w] := by
      rw [List.take_add_one, e1, e2]
      rfl
    obtain ⟨d, hd⟩ := take_path (k := scales.length) (n := (n : Int)) (by omega) (by have := W_thou scales.length; omega) (c + 1)
    rw [t] at hd
    exact ⟨Bg.name_low (n := (n : Int)) (by omega) (by omega) w (List.mem_of_getElem? e2), d, hd⟩
  · rintro ⟨hs, d, hd⟩
    obtain ⟨n, hn, e⟩ := low_name V (A := L ++ [w]) (fun x hx => (List.mem_append.mp hx).elim (hL x) fun z => by rw [List.mem_singleton.mp z]; exact hw) (fun x hx => (List.mem_append.mp hx).elim (lo x) fun z => by rw [List.mem_singleton.mp z]; exact hs) (by simp) hd
    refine ⟨n, L.length, hn, ?_, ?_⟩
    · rw [e, List.take_left]
    · rw [e, List.getElem?_append_right (Nat.le_refl _), Nat.sub_self]
      rfl
theorem tree_name (V : Voc ones tens hun scales ws) {L : List Wo} (hL : ∀ x ∈ L, x ∈ Bg.all scales.length) (lo : ∀ x ∈ L, Bg.isSc x = false) {d : Bg} (h : Bg.folL (Bg.start scales.length) L = some d) :
    (∃ n : Nat, n < 1000 ∧ Bg.nameW (n : Int) (scales.length + 1) = L) ↔ L ≠ [] := by
  constructor
  · rintro ⟨n, hn, e⟩ z
    have w := W_thou scales.length
    have := nm_ne (ones := ones) (tens := tens) (hun := hun) (scales := scales) (n := (n : Int)) (by omega) (by omega)
    unfold nmL at this
    rw [e, z] at this
    exact this rfl
  · intro ne
    exact low_name V hL lo ne h
end
end LB
set_option Elab.async false
set_option linter.all false
set_option maxRecDepth 100000
set_option maxHeartbeats 4000000
/-! The law's tree of names below 1000: what its dict holds. -/
namespace LB
open PySem L2 Wk
open Bg (Bg Wo)
def KS (ws : List Str) : List Key := ws.map Sum.inr
theorem KS_kV (ws : List Str) : (KS ws).map kV = ws.map V.str := by
  unfold KS
  rw [List.map_map]
  rfl
theorem KS_inj {a b : List Str} (h : KS a = KS b) : a = b := by
  unfold KS at h
  exact (List.map_inj_right fun x y e => Sum.inr.inj e).mp h
structure EntOk (S : List Str → Nat → Prop) (N : Nat) (k nx : List Str) (b : Bool) : Prop where
  nd : nx.Nodup
  len : nx.length ≤ N
  nxt : ∀ w, w ∈ nx ↔ ∃ r c, S r c ∧ r.take c = k ∧ r[c]? = some w
  ends : b = true ↔ ∃ r c, S r c ∧ r.take c = k ∧ c = r.length
def EntAt (H : Hp) (a : Addr) (nx : List Str) (b : Bool) : Prop := ∃ l, H a = some (.lst [.ref l, .bl b]) ∧ H l = some (.lst (nx.map V.str))
theorem EntAt.same {H G : Hp} {a : Addr} {nx : List Str} {b : Bool} (h : EntAt H a nx b) (s : Same H G) : EntAt G a nx b := by
  obtain ⟨l, h1, h2⟩ := h
  exact ⟨l, s _ _ h1, s _ _ h2⟩
structure TreeK (H : Hp) (d : Addr) (S : List Str → Nat → Prop) (N : Nat) (kvs : List (List Key × V)) : Prop where
  at_ : H d = some (.dT kvs)
  len : kvs.length ≤ N
  keys : ∀ e ∈ kvs, ∃ k r c, e.1 = KS k ∧ S r c ∧ r.take c = k
  val : ∀ k, (∃ a nx b, valV kvs (KS k) = some (.ref a) ∧ EntAt H a nx b ∧ EntOk S N k nx b ∧ ∃ r c, S r c ∧ r.take c = k) ∨ (valV kvs (KS k) = none ∧ ∀ r c, S r c → r.take c ≠ k)
theorem TreeK.same {H G : Hp} {d : Addr} {S : List Str → Nat → Prop} {N : Nat} {kvs : List (List Key × V)} (T : TreeK H d S N kvs) (s : Same H G) : TreeK G d S N kvs :=
  ⟨s _ _ T.at_, T.len, T.keys, fun k => (T.val k).imp (fun ⟨a, nx, b, h1, h2, h3⟩ => ⟨a, nx, b, h1, h2.same s, h3⟩) id⟩
theorem EntOk.congr {S S' : List Str → Nat → Prop} {N M : Nat} {k nx : List Str} {b : Bool} (h : EntOk S N k nx b) (e : ∀ r c, S r c ↔ S' r c) (nm : N ≤ M) : EntOk S' M k nx b :=
  ⟨h.nd, Nat.le_trans h.len nm, fun w => by simp only [← e]; exact h.nxt w, by simp only [← e]; exact h.ends⟩
theorem TreeK.congr {H : Hp} {d : Addr} {S S' : List Str → Nat → Prop} {N M : Nat} {kvs : List (List Key × V)} (T : TreeK H d S N kvs) (e : ∀ r c, S r c ↔ S' r c) (nm : N ≤ M) : TreeK H d S' M kvs :=
  ⟨T.at_, Nat.le_trans T.len nm, fun x hx => by
    obtain ⟨k, r, c, h1, h2, h3⟩ := T.keys x hx
    exact ⟨k, r, c, h1, (e r c).mp h2, h3⟩, fun k => by
    rcases T.val k with ⟨a, nx, b, h1, h2, h3, r, c, h4, h5⟩ | ⟨h1, h2⟩
    · exact .inl ⟨a, nx, b, h1, h2, h3.congr e nm, r, c, (e r c).mp h4, h5⟩
    · exact .inr ⟨h1, fun r c h => h2 r c ((e r c).mpr h)⟩⟩
theorem TreeK.nil {H : Hp} {d : Addr} (h : H d = some (.dT [])) {S : List Str → Nat → Prop} (hS : ∀ r c, ¬ S r c) : TreeK H d S 0 [] :=
  ⟨h, Nat.le_refl _, fun e he => (nomatch he), fun k => .inr ⟨rfl, fun r c h => absurd h (hS r c)⟩⟩
/-- one step more -/
def SW (S : List Str → Nat → Prop) (row : List Str) (cut : Nat) : List Str → Nat → Prop := fun r c => S r c ∨ (r = row ∧ c = cut)
theorem EntOk.none {S : List Str → Nat → Prop} {N : Nat} {k : List Str} (h : ∀ r c, S r c → r.take c ≠ k) : EntOk S N k [] false :=
  ⟨List.nodup_nil, Nat.zero_le _, fun w => ⟨fun z => (nomatch z), fun ⟨r, c, h1, h2, _⟩ => absurd h2 (h r c h1)⟩, ⟨fun z => (by cases z), fun ⟨r, c, h1, h2, _⟩ => absurd h2 (h r c h1)⟩⟩
theorem EntOk.other {S : List Str → Nat → Prop} {N : Nat} {k nx : List Str} {b : Bool} {row : List Str} {cut : Nat} (h : EntOk S N k nx b) (ne : row.take cut ≠ k) : EntOk (SW S row cut) (N + 1) k nx b :=
  ⟨h.nd, Nat.le_succ_of_le h.len, fun w => (h.nxt w).trans ⟨fun ⟨r, c, h1, h2⟩ => ⟨r, c, .inl h1, h2⟩, fun ⟨r, c, h1, h2, h3⟩ => h1.elim (fun z => ⟨r, c, z, h2, h3⟩) fun ⟨z1, z2⟩ => by subst z1 z2; exact absurd h2 ne⟩,
    h.ends.trans ⟨fun ⟨r, c, h1, h2⟩ => ⟨r, c, .inl h1, h2⟩, fun ⟨r, c, h1, h2, h3⟩ => h1.elim (fun z => ⟨r, c, z, h2, h3⟩) fun ⟨z1, z2⟩ => by subst z1 z2; exact absurd h2 ne⟩⟩
theorem EntOk.whole {S : List Str → Nat → Prop} {N : Nat} {k nx : List Str} {b : Bool} {row : List Str} {cut : Nat} (h : EntOk S N k nx b) (e : row.take cut = k) (l : cut = row.length) : EntOk (SW S row cut) (N + 1) k nx true :=
  ⟨h.nd, Nat.le_succ_of_le h.len, fun w => (h.nxt w).trans ⟨fun ⟨r, c, h1, h2⟩ => ⟨r, c, .inl h1, h2⟩, fun ⟨r, c, h1, h2, h3⟩ => h1.elim (fun z => ⟨r, c, z, h2, h3⟩) fun ⟨z1, z2⟩ => by
      subst z1 z2
      rw [l, List.getElem?_eq_none (Nat.le_refl _)] at h3
      cases h3⟩,
    ⟨fun _ => ⟨row, cut, .inr ⟨rfl, rfl⟩, e, l⟩, fun _ => rfl⟩⟩
theorem EntOk.more {S : List Str → Nat → Prop} {N : Nat} {k nx : List Str} {b : Bool} {row : List Str} {cut : Nat} {w : Str} (h : EntOk S N k nx b) (e : row.take cut = k) (l : row[cut]? = some w) : EntOk (SW S row cut) (N + 1) k (if w ∈ nx then nx else nx ++ [w]) b := by
  have lt := (List.getElem?_eq_some_iff.mp l).1
  have hn : ∀ x, (x ∈ nx ∨ x = w) ↔ ∃ r c, SW S row cut r c ∧ r.take c = k ∧ r[c]? = some x := fun x => by
    constructor
    · rintro (z | rfl)
      · obtain ⟨r, c, h1, h2⟩ := (h.nxt x).mp z
        exact ⟨r, c, .inl h1, h2⟩
      · exact ⟨row, cut, .inr ⟨rfl, rfl⟩, e, l⟩
    · rintro ⟨r, c, h1 | ⟨rfl, rfl⟩, h2, h3⟩
      · exact .inl ((h.nxt x).mpr ⟨r, c, h1, h2, h3⟩)
      · exact .inr (Option.some.inj (h3.symm.trans l))
  have he : b = true ↔ ∃ r c, SW S row cut r c ∧ r.take c = k ∧ c = r.length := h.ends.trans ⟨fun ⟨r, c, h1, h2⟩ => ⟨r, c, .inl h1, h2⟩, fun ⟨r, c, h1, h2, h3⟩ => h1.elim (fun z => ⟨r, c, z, h2, h3⟩) fun ⟨z1, z2⟩ => by
    subst z1 z2
    omega⟩
  by_cases z : w ∈ nx
  · rw [if_pos z]
    exact ⟨h.nd, Nat.le_succ_of_le h.len, fun x => ⟨fun q => (hn x).mp (.inl q), fun q => ((hn x).mpr q).elim id fun y => y ▸ z⟩, he⟩
  · rw [if_neg z]
    refine ⟨List.nodup_append.mpr ⟨h.nd, by simp, fun x hx y hy q => z ?_⟩, by rw [List.length_append]; exact Nat.succ_le_succ h.len, fun x => ?_, he⟩
    · rw [List.mem_singleton] at hy
      rw [← hy, ← q]
      exact hx
    · rw [List.mem_append, List.mem_singleton]
      exact hn x
theorem put_mem {kvs : List (List Key × V)} {k : List Key} {v : V} {e : List Key × V} (h : e ∈ putK kvs k v) : e.1 = k ∨ ∃ f ∈ kvs, f.1 = e.1 := by
  unfold putK at h
  split at h
  · obtain ⟨f, hf, rfl⟩ := List.mem_map.mp h
    by_cases z : f.1 = k
    · rw [if_pos z]
      exact .inl z
    · rw [if_neg z]
      exact .inr ⟨f, hf, rfl⟩
  · rcases List.mem_append.mp h with h | h
    · exact .inr ⟨e, h, rfl⟩
    · rw [List.mem_singleton.mp h]
      exact .inl rfl
theorem put_len (kvs : List (List Key × V)) (k : List Key) (v : V) : (putK kvs k v).length ≤ kvs.length + 1 := by
  unfold putK
  split
  · rw [List.length_map]
    omega
  · rw [List.length_append]
    exact Nat.le_refl _
theorem TreeK.put {H : Hp} {d : Addr} {S : List Str → Nat → Prop} {N : Nat} {kvs : List (List Key × V)} (T : TreeK H d S N kvs) {row : List Str} {cut : Nat} {k nx : List Str} {b : Bool} {a : Addr} (e : row.take cut = k) (ha : EntAt H a nx b) (ok : EntOk (SW S row cut) (N + 1) k nx b) :
    TreeK (upd H d (.dT (putK kvs (KS k) (.ref a)))) d (SW S row cut) (N + 1) (putK kvs (KS k) (.ref a)) := by
  have keep : ∀ {a : Addr} {nx : List Str} {b : Bool}, EntAt H a nx b → EntAt (upd H d (.dT (putK kvs (KS k) (.ref a)))) a nx b := fun {a nx b} ⟨l, h1, h2⟩ => by
    have n1 : a ≠ d := fun z => by
      rw [z, T.at_] at h1
      cases h1
    have n2 : l ≠ d := fun z => by
      rw [z, T.at_] at h2
      cases h2
    exact ⟨l, (upd_ne n1).trans h1, (upd_ne n2).trans h2⟩
  have keep' : ∀ {a' : Addr} {nx : List Str} {b : Bool}, EntAt H a' nx b → EntAt (upd H d (.dT (putK kvs (KS k) (.ref a)))) a' nx b := fun {a' nx b} ⟨l, h1, h2⟩ => by
    have n1 : a' ≠ d := fun z => by
      rw [z, T.at_] at h1
      cases h1
    have n2 : l ≠ d := fun z => by
      rw [z, T.at_] at h2
      cases h2
    exact ⟨l, (upd_ne n1).trans h1, (upd_ne n2).trans h2⟩
  refine ⟨upd_same, Nat.le_trans (put_len _ _ _) (Nat.succ_le_succ T.len), fun x hx => ?_, fun k' => ?_⟩
  · rcases put_mem hx with z | ⟨f, hf, z⟩
    · exact ⟨k, row, cut, z, .inr ⟨rfl, rfl⟩, e⟩
    · obtain ⟨k2, r, c, h1, h2, h3⟩ := T.keys f hf
      exact ⟨k2, r, c, z.symm.trans h1, .inl h2, h3⟩
  · rw [valV_put]
    by_cases z : k' = k
    · subst z
      rw [if_pos rfl]
      exact .inl ⟨a, nx, b, rfl, keep' ha, ok, row, cut, .inr ⟨rfl, rfl⟩, e⟩
    · rw [if_neg fun q => z (KS_inj q)]
      rcases T.val k' with ⟨a2, nx2, b2, h1, h2, h3, r, c, h4, h5⟩ | ⟨h1, h2⟩
      · exact .inl ⟨a2, nx2, b2, h1, keep' h2, h3.other fun q => z (q.symm.trans e), r, c, .inl h4, h5⟩
      · refine .inr ⟨h1, fun r c h => ?_⟩
        rcases h with h | ⟨rfl, rfl⟩
        · exact h2 r c h
        · exact fun q => z (q.symm.trans e)
end LB
set_option Elab.async false
set_option linter.all false
set_option maxRecDepth 100000
set_option maxHeartbeats 8000000
/-! The law's tree of names below 1000. -/
namespace Bg
theorem name_len {n : Int} {k : Nat} (n0 : 0 ≤ n) (n1 : n < 1000) : (nameW n (k + 1)).length ≤ 4 := by
  unfold nameW
  by_cases z : n = 0
  · rw [if_pos z]
    decide
  · rw [if_neg z]
    have e := spW_top (i := 1) n0 (by show n < W 1; rw [W_one]; exact n1) k
    rw [Nat.add_comm 1 k] at e
    rw [e]
    show (partW n 0 ++ spW n 0).length ≤ 4
    rw [show spW n 0 = [] from rfl, List.append_nil]
    unfold partW
    split
    · rw [if_neg (by decide), List.append_nil]
      unfold groupW
      rw [List.length_append]
      have a : ((if gr n 0 / 100 > 0 then [Wo.low (gr n 0 / 100), Wo.hun] else []) : List Wo).length ≤ 2 := by split <;> simp
      have b : ((if gr n 0 % 100 ≥ 20 then Wo.low (10 * (gr n 0 % 100 / 10)) :: (if gr n 0 % 100 % 10 > 0 then [Wo.low (gr n 0 % 100 % 10)] else []) else if gr n 0 % 100 > 0 then [Wo.low (gr n 0 % 100)] else []) : List Wo).length ≤ 2 := by
        split
        · split <;> simp
        · split <;> simp
      omega
    · decide
end Bg
namespace LB
open PySem L2 Wk
open Bg (Bg Wo)
/-- the steps: rows below i, and the next one up to j -/
def Sij (nm : Nat → List Str) (i j : Nat) : List Str → Nat → Prop := fun r c => (∃ n, n < i ∧ r = nm n ∧ c ≤ r.length) ∨ (r = nm i ∧ c < j)
theorem Sij_zero {nm : Nat → List Str} (r : List Str) (c : Nat) : ¬ Sij nm 0 0 r c := by
  rintro (⟨n, h, _⟩ | ⟨_, h⟩)
  · omega
  · omega
theorem Sij_next {nm : Nat → List Str} {i j : Nat} (r : List Str) (c : Nat) : SW (Sij nm i j) (nm i) j r c ↔ Sij nm i (j + 1) r c := by
  constructor
  · rintro ((h | ⟨h1, h2⟩) | ⟨h1, h2⟩)
    · exact .inl h
    · exact .inr ⟨h1, by omega⟩
    · exact .inr ⟨h1, by omega⟩
  · rintro (h | ⟨h1, h2⟩)
    · exact .inl (.inl h)
    · by_cases z : c = j
      · exact .inr ⟨h1, z⟩
      · exact .inl (.inr ⟨h1, by omega⟩)
theorem Sij_row {nm : Nat → List Str} {i : Nat} (r : List Str) (c : Nat) : Sij nm i ((nm i).length + 1) r c ↔ Sij nm (i + 1) 0 r c := by
  constructor
  · rintro (⟨n, h1, h2, h3⟩ | ⟨rfl, h2⟩)
    · exact .inl ⟨n, by omega, h2, h3⟩
    · exact .inl ⟨i, by omega, rfl, by omega⟩
  · rintro (⟨n, h1, h2, h3⟩ | ⟨_, h2⟩)
    · by_cases z : n = i
      · subst z
        subst h2
        exact .inr ⟨rfl, by omega⟩
      · exact .inl ⟨n, by omega, h2, h3⟩
    · omega
def nmN (ones tens : List Str) (hun : Str) (scales : List Str) (n : Nat) : List Str := nmL ones tens hun scales (n : Int)
def spTree : Sp := fun vs H Q _ => ∃ (t o te sc : Addr) (ones tens : List Str) (hun : Str) (scales : List Str), vs = [.ref t] ∧ Tab H t ones tens hun scales o te sc ∧
  ∀ (d : Addr) (kvs : List (List Key × V)) (H' : Hp), Same H H' → TreeK H' d (Sij (nmN ones tens hun scales) 1000 0) 6000 kvs → Q (.ref d) H'
section
variable {P : Program} {w : World} {K : PySem.W.Frag} {mg : Str → Option Value} {base : Heap}
theorem scTree : FnScope ["sheet", "found", "number_here", "row", "cut", "entry"] ["sheet"] (defScope sTree) := ⟨rfl, rfl, rfl, by decide +kernel, rfl, by decide +kernel, by decide +kernel⟩
theorem ok_tree {f fS : Addr} {fd dS : FuncData} (F : Fun K "_law_tree" "_law_tree" sTree f fd) (Sp : Def1 P w K mg base "_law_spelt" 1 fS dS ["sheet", "number_here"] spSpelt) (mL : mg "len" = none) (mR : mg "range" = none) (mTu : mg "tuple" = none) :
    FnOk P w K mg base CX0 2 f fd ["sheet"] spTree := by
  refine F.ok scTree (fun vs H Q E h => ?_) (fun cdv A outer s H vs Q E hr h => ?_)
  · obtain ⟨t, o, te, sc, ones, tens, hun, scales, rfl, _⟩ := h
    rfl
  · obtain ⟨t, o, te, sc, ones, tens, hun, scales, rfl, TB, kk⟩ := h
    have hr1 : Room 1 _ := hr
    have hu := hu_of hr
    refine ⟨_, pss_cons (ps_set (i := 1) scTree.nd rfl (.inl rfl) pe_dnewT) (pss_cons (ps_for PassesOwn.never rfl (pi_range1 rfl mR (pa_cons pe_int pa_nil)) (pg_name (i := 2) scTree.nd rfl (.inl rfl)) (pss_cons (ps_set (i := 3) scTree.nd rfl (.inl rfl) (pe_call Sp.ok hr1 (by rfl) Sp.g Sp.k Sp.b .nil pass0 (pa_cons (pv 0) (pa_cons (pv 2) pa_nil)))) (pss_one (ps_for PassesOwn.never rfl (pi_range1 rfl mR (pa_cons (pe_op op_add (pe_callB call_len_seq (by rfl) mL PySem.boot_len (pa_cons (pv 3) pa_nil)) pe_int) pa_nil)) (pg_name (i := 4) scTree.nd rfl (.inl rfl)) (pss_mid (ps_set (i := 5) scTree.nd rfl (.inl rfl) (pe_dget2 hu (pv 1) (pe_callTy call_tuple_of (by rfl) mTu (by decide +kernel) (pa_cons (pe_slice sl_list (pv 3) po_none (po_some (pv 4))) pa_nil)) (pe_lst (pa_cons (pe_lst pa_nil) (pa_cons pe_bl pa_nil))) ⟨rfl, rfl, rfl, rfl⟩)) (pss_mid (ps_if (pt_cmpR op_eq (pv 4) (pe_callB call_len_seq (by rfl) mL PySem.boot_len (pa_cons (pv 3) pa_nil)) (nomark _)) (pss_one (ps_set (i := 5) scTree.nd rfl (.inl rfl) (pe_lst (pa_cons (pe_ix ix_list (pv 5) pe_int (fun _ _ => rfl)) (pa_cons pe_bl pa_nil))))) (pss_one (ps_if (pt_cmpR op_notIn_seq (pe_ix ix_list (pv 3) (pv 4) (fun _ _ => rfl)) (pe_ix ix_list (pv 5) pe_int (fun _ _ => rfl)) (by rfl)) (pss_one (ps_set (i := 5) scTree.nd rfl (.inl rfl) (pe_lst (pa_cons (pe_op op_cat (pe_ix ix_list (pv 5) pe_int (fun _ _ => rfl)) (pe_lst (pa_cons (pe_ix ix_list (pv 3) (pv 4) (fun _ _ => rfl)) pa_nil))) (pa_cons (pe_ix ix_list (pv 5) pe_int (fun _ _ => rfl)) pa_nil))))) pss_nil))) (pss_one (ps_dput hu (pv 1) (pe_callTy call_tuple_of (by rfl) mTu (by decide +kernel) (pa_cons (pe_slice sl_list (pv 3) po_none (po_some (pv 4))) pa_nil)) (pv 5) (by rfl))))))))) (pss_one (ps_ret (pv 1)))), ?_⟩
    have big : 10000 ≤ sizeLine := by decide
    obtain ⟨nm, hnm⟩ : ∃ nm, nm = nmN ones tens hun scales := ⟨_, rfl⟩
    rw [← hnm] at kk
    have nlen : ∀ n, n < 1000 → (nm n).length ≤ 4 := fun n hn => by
      rw [hnm]
      unfold nmN nmL
      rw [List.length_map]
      exact Bg.name_len (by omega) (by omega)
    intro d nd
    have s0 := same_new (x := .dT []) nd
    have T0 := TreeK.nil (H := upd H d (.dT [])) (d := d) upd_same (S := Sij nm 0 0) Sij_zero
    generalize upd H d (.dT []) = H0 at s0 T0
    refine ⟨(1000 : Int), rfl, by decide, by decide, ?_⟩
    refine for_range (lo := 0) (n := (1000 : Int).toNat) (fun i σ G => ∃ (kvs : List (List Key × V)) (x2 x3 x4 x5 : Option V), σ = [some (.ref t), some (.ref d), x2, x3, x4, x5] ∧ Same H G ∧ TreeK G d (Sij nm i 0) (6 * i) kvs)
      ⟨[], none, none, none, none, rfl, s0, T0⟩ ?_ ?_
    · rintro i σ G hi ⟨kvs, x2, x3, x4, x5, rfl, sG, TG⟩
      have i1 : i < 1000 := hi
      refine ⟨_, rfl, _, rfl, t, o, te, sc, ones, tens, hun, scales, (i : Int), by rw [Int.zero_add]; rfl, TB.same sG, by omega, by have := W_thou scales.length; omega, fun p G1 np s1 hp => ?_⟩
      have hp : G1 p = some (.lst ((nm i).map V.str)) := by
        rw [hnm]
        exact hp
      have pd : p ≠ d := fun z => by
        rw [z, TG.at_] at np
        cases np
      have li := nlen i i1
      have len : ((((nm i).map V.str).length : Nat) : Int) + 1 = (((nm i).length + 1 : Nat) : Int) := by
        rw [List.length_map]
        omega
      refine ⟨_, rfl, p, _, rfl, .inl (SqL.of hp), _, _, rfl, rfl, (((nm i).length + 1 : Nat) : Int), congrArg (fun z => [V.int z]) len, by omega, by omega, ?_⟩
      refine for_range (lo := 0) (n := ((((nm i).length + 1 : Nat) : Int)).toNat) (fun j σ G => ∃ (kvs : List (List Key × V)) (x4 x5 : Option V), σ = [some (.ref t), some (.ref d), some (.int (0 + (i : Int))), some (.ref p), x4, x5] ∧ Same H G ∧ G p = some (.lst ((nm i).map V.str)) ∧ TreeK G d (Sij nm i j) (6 * i + j) kvs)
        ⟨kvs, x4, x5, rfl, sG.trans s1, hp, TG.same s1⟩ ?_ ?_
      · rintro j σ G2 hj ⟨kvs, x4, x5, rfl, s2, hp2, T2⟩
        have jl : j ≤ (nm i).length := by
          have : j < ((((nm i).length + 1 : Nat) : Int)).toNat := hj
          omega
        have kl : kvs.length < sizeLine := by
          have := T2.len
          omega
        -- the entry so far
        refine ⟨fun τ G => ∃ (e : Addr) (nx : List Str) (b : Bool), τ = [some (.ref t), some (.ref d), some (.int (0 + (i : Int))), some (.ref p), some (.int (0 + (j : Int))), some (.ref e)] ∧ Same G2 G ∧ EntAt G e nx b ∧ EntOk (Sij nm i j) (6 * i + j) ((nm i).take j) nx b, ?_, ?_⟩
        · refine ⟨_, rfl, d, rfl, .inr ⟨_, .inl T2.at_⟩, _, rfl, _, rfl, _, rfl, p, _, rfl, SqL.of hp2, fun q nq => ?_⟩
          have cut : cutV ((nm i).map V.str) none (some (0 + (j : Int))) = ((nm i).take j).map V.str := by
            rw [Int.zero_add, cut_toJ, List.map_take]
          rw [cut]
          have q1 := same_new (x := .lst (((nm i).take j).map V.str)) nq
          refine ⟨q, _, rfl, .inl ⟨SqL.of upd_same, fun u nu => ?_⟩⟩
          have q2 := q1.trans (same_new (x := .tup (((nm i).take j).map V.str)) nu)
          have hu' : upd (upd G2 q (.lst (((nm i).take j).map V.str))) u (.tup (((nm i).take j).map V.str)) u = some (.tup ((KS ((nm i).take j)).map kV)) := by
            rw [upd_same, KS_kV]
          generalize upd (upd G2 q (.lst (((nm i).take j).map V.str))) u (.tup (((nm i).take j).map V.str)) = G3 at q2 hu'
          refine ⟨Nat.zero_le _, fun l nl => ?_⟩
          have q3 := q2.trans (same_new (x := .lst []) nl)
          have hu3 := same_new (x := .lst []) nl _ _ hu'
          have hl3 : upd G3 l (.lst []) l = some (.lst []) := upd_same
          generalize upd G3 l (.lst []) = G4 at q3 hu3 hl3
          refine ⟨by show 2 ≤ sizeLine; omega, fun e ne => ?_⟩
          have q4 := q3.trans (same_new (x := .lst [.ref l, .bl false]) ne)
          have hu4 := same_new (x := .lst [.ref l, .bl false]) ne _ _ hu3
          have hl4 := same_new (x := .lst [.ref l, .bl false]) ne _ _ hl3
          have he4 : upd G4 e (.lst [.ref l, .bl false]) e = some (.lst [.ref l, .bl false]) := upd_same
          generalize upd G4 e (.lst [.ref l, .bl false]) = G5 at q4 hu4 hl4 he4
          have T5 := T2.same q4
          refine ⟨_, DGet.t T5.at_ hu4, ?_⟩
          rcases T5.val ((nm i).take j) with ⟨a, nx, b, h1, h2, h3, _⟩ | ⟨h1, h2⟩
          · rw [h1]
            exact ⟨a, nx, b, rfl, q4, h2, h3⟩
          · rw [h1]
            exact ⟨e, [], false, rfl, q4, ⟨l, he4, hl4⟩, EntOk.none h2⟩
        rintro τ G3 ⟨e, nx, b, rfl, s3, ⟨l, he, hl⟩, ok⟩
        have hp3 := s3 _ _ hp2
        have nxl := ok.len
        -- the entry with this step
        refine ⟨fun τ G => ∃ (e : Addr) (nx : List Str) (b : Bool), τ = [some (.ref t), some (.ref d), some (.int (0 + (i : Int))), some (.ref p), some (.int (0 + (j : Int))), some (.ref e)] ∧ Same G3 G ∧ EntAt G e nx b ∧ EntOk (SW (Sij nm i j) (nm i) j) (6 * i + j + 1) ((nm i).take j) nx b, ?_, ?_⟩
        · refine ⟨_, rfl, _, rfl, p, _, rfl, .inl (SqL.of hp3), rfl, _, rfl, ite2 (fun c => ?_) (fun c => ?_)⟩
          · have jn : j = (nm i).length := by
              have := V.int.inj (of_decide_eq_true c)
              rw [List.length_map] at this
              omega
            refine ⟨_, rfl, e, _, _, _, rfl, rfl, SqL.of he, (rfl : atI [V.ref l, V.bl b] 0 = some (.ref l)), by show 2 ≤ sizeLine; omega, fun e2 ne2 => ?_⟩
            exact ⟨e2, nx, true, rfl, same_new ne2, ⟨l, upd_same, same_new ne2 _ _ hl⟩, ok.whole rfl jn⟩
          · have jn : j < (nm i).length := by
              rcases Nat.lt_or_ge j (nm i).length with h | h
              · exact h
              · exact absurd (decide_eq_true (congrArg V.int (by rw [List.length_map]; omega))) c
            obtain ⟨wd', hw⟩ : ∃ x, (nm i)[j]? = some x := ⟨_, List.getElem?_eq_getElem jn⟩
            have at_ : atI ((nm i).map V.str) (0 + (j : Int)) = some (.str wd') := by
              rw [Int.zero_add]
              exact atI_nat (by rw [List.getElem?_map, hw]; rfl)
            have more := ok.more (row := nm i) (cut := j) rfl hw
            refine ⟨_, rfl, _, rfl, p, _, _, _, rfl, rfl, SqL.of hp3, at_, _, rfl, e, _, _, _, rfl, rfl, SqL.of he, (rfl : atI [V.ref l, V.bl b] 0 = some (.ref l)), l, _, rfl, .inl (SqL.of hl), rfl, strs_flat nx, ?_⟩
            rw [inV_strs]
            refine ⟨_, rfl, ite2 (fun c2 => ?_) (fun c2 => ?_)⟩
            · have nin : ¬ wd' ∈ nx := fun z => by
                rw [decide_eq_true z] at c2
                cases c2
              rw [if_neg nin] at more
              refine ⟨_, rfl, e, _, _, _, rfl, rfl, SqL.of he, (rfl : atI [V.ref l, V.bl b] 0 = some (.ref l)), _, rfl, _, rfl, p, _, _, _, rfl, rfl, SqL.of hp3, at_, by show 1 ≤ sizeLine; omega, fun l1 nl1 => ?_⟩
              have r1 := same_new (x := .lst [.str wd']) nl1
              refine ⟨l, l1, _, _, rfl, rfl, r1 _ _ hl, upd_same, by rw [List.length_map]; show nx.length + 1 ≤ sizeLine; omega, fun l2 nl2 => ?_⟩
              have r2 := r1.trans (same_new (x := .lst (nx.map V.str ++ [.str wd'])) nl2)
              have hl2 : upd (upd G3 l1 (.lst [.str wd'])) l2 (.lst (nx.map V.str ++ [.str wd'])) l2 = some (.lst ((nx ++ [wd']).map V.str)) := by
                rw [upd_same, List.map_append]
                rfl
              generalize upd (upd G3 l1 (.lst [.str wd'])) l2 (.lst (nx.map V.str ++ [.str wd'])) = G4 at r2 hl2
              refine ⟨_, rfl, e, _, _, _, rfl, rfl, SqL.of (r2 _ _ he), (rfl : atI [V.ref l, V.bl b] 1 = some (.bl b)), by show 2 ≤ sizeLine; omega, fun e2 ne2 => ?_⟩
              exact ⟨e2, nx ++ [wd'], b, rfl, r2.trans (same_new ne2), ⟨l2, upd_same, same_new ne2 _ _ hl2⟩, more⟩
            · have nin : wd' ∈ nx := by
                rcases Decidable.em (wd' ∈ nx) with z | z
                · exact z
                · rw [decide_eq_false z] at c2
                  exact absurd rfl c2
              rw [if_pos nin] at more
              exact ⟨e, nx, b, rfl, Same.refl _, ⟨l, he, hl⟩, more⟩
        rintro τ G4 ⟨e2, nx2, b2, rfl, s4, ent, ok2⟩
        have hp4 := s4 _ _ hp3
        have T4 := (T2.same s3).same s4
        -- put back
        refine ⟨_, rfl, _, rfl, _, rfl, _, rfl, _, rfl, p, _, rfl, SqL.of hp4, fun q nq => ?_⟩
        have cut : cutV ((nm i).map V.str) none (some (0 + (j : Int))) = ((nm i).take j).map V.str := by
          rw [Int.zero_add, cut_toJ, List.map_take]
        rw [cut]
        have q1 := same_new (x := .lst (((nm i).take j).map V.str)) nq
        refine ⟨q, _, rfl, .inl ⟨SqL.of upd_same, fun u nu => ?_⟩⟩
        have q2 := q1.trans (same_new (x := .tup (((nm i).take j).map V.str)) nu)
        have hu' : upd (upd G4 q (.lst (((nm i).take j).map V.str))) u (.tup (((nm i).take j).map V.str)) u = some (.tup ((KS ((nm i).take j)).map kV)) := by
          rw [upd_same, KS_kV]
        generalize upd (upd G4 q (.lst (((nm i).take j).map V.str))) u (.tup (((nm i).take j).map V.str)) = G5 at q2 hu'
        have T5 := T4.same q2
        refine ⟨d, _, rfl, DPut.t T5.at_ hu' kl, ?_⟩
        have T6 := (T5.put rfl (ent.same q2) ok2).congr (M := 6 * i + (j + 1)) Sij_next (by omega)
        refine ⟨_, _, _, rfl, fun r x hx => ?_, ?_, T6⟩
        · rw [upd_ne (ne_of_none hx nd)]
          exact q2 _ _ (s4 _ _ (s3 _ _ (s2 _ _ hx)))
        · rw [upd_ne pd]
          exact q2 _ _ hp4
      · rintro σ G2 ⟨kvs2, y4, y5, rfl, s2, hp2, T2⟩
        exact ⟨kvs2, _, _, _, _, rfl, s2, T2.congr Sij_row (by omega)⟩
    · rintro σ G ⟨kvs, x2, x3, x4, x5, rfl, sG, TG⟩
      exact ⟨_, rfl, kk d kvs G sG TG⟩
end
end LB
set_option Elab.async false
set_option linter.all false
set_option maxRecDepth 100000
set_option maxHeartbeats 4000000
/-! The program's own: the number at a place. -/
namespace LB
open PySem L2 Wk
open Bg (Bg Wo)
section
variable {P : Program} {w : World} {K : PySem.W.Frag} {mg : Str → Option Value} {base : Heap}
end
end LB
set_option Elab.async false
set_option linter.all false
set_option maxRecDepth 100000
set_option maxHeartbeats 4000000
/-! The program's own on valid arguments: ranges. -/
namespace LB
open PySem L2 Wk
open Bg (Bg Wo)
def spCN0 : Sp := fun vs H Q _ => ∃ (t o te sc : Addr) (ones tens : List Str) (hun : Str) (scales : List Str) (n : Int), vs = [.ref t, .int n] ∧ Tab H t ones tens hun scales o te sc ∧ 0 ≤ n ∧ n < Bg.W (scales.length + 1) ∧ ∀ H', Same H H' → Q .non H'
def spCR0 : Sp := fun vs H Q _ => ∃ (t o te sc : Addr) (ones tens : List Str) (hun : Str) (scales : List Str) (lo hi : Int), vs = [.ref t, .int lo, .int hi] ∧ Tab H t ones tens hun scales o te sc ∧ 0 ≤ lo ∧ lo ≤ hi ∧ hi < Bg.W (scales.length + 1) ∧ ∀ H', Same H H' → Q .non H'
def spCB0 : Sp := fun vs H Q _ => ∃ (t o te sc : Addr) (ones tens : List Str) (hun : Str) (scales : List Str) (n lo hi : Int), vs = [.ref t, .int n, .int lo, .int hi] ∧ Tab H t ones tens hun scales o te sc ∧ 0 ≤ n ∧ n < Bg.W (scales.length + 1) ∧
  0 ≤ lo ∧ lo ≤ hi ∧ hi < Bg.W (scales.length + 1) ∧ ∀ H', Same H H' → Q (.int (ahead ones tens hun scales lo hi n)) H'
def spNth0 : Sp := fun vs H Q _ => ∃ (t o te sc : Addr) (ones tens : List Str) (hun : Str) (scales : List Str) (n lo hi : Int), vs = [.ref t, .int n, .int lo, .int hi] ∧ Tab H t ones tens hun scales o te sc ∧ 0 ≤ n ∧ n ≤ hi - lo ∧
  0 ≤ lo ∧ lo ≤ hi ∧ hi < Bg.W (scales.length + 1) ∧ ∀ r H', Same H H' → lo ≤ r → r ≤ hi → ahead ones tens hun scales lo hi r = n → Q (.int r) H'
/-- the neighbour of a number: at this place, if there is one -/
def spNext0 (up : Bool) : Sp := fun vs H Q _ => ∃ (t o te sc : Addr) (ones tens : List Str) (hun : Str) (scales : List Str) (n lo hi : Int), vs = [.ref t, .int n, .int lo, .int hi] ∧ Tab H t ones tens hun scales o te sc ∧ 0 ≤ n ∧ n < Bg.W (scales.length + 1) ∧
  0 ≤ lo ∧ lo ≤ hi ∧ hi < Bg.W (scales.length + 1) ∧ (∀ p : Int, p = (if up then ahead ones tens hun scales lo hi n + (if lo ≤ n ∧ n ≤ hi then 1 else 0) else ahead ones tens hun scales lo hi n - 1) →
    ((p < 0 ∨ p > hi - lo) → ∀ H', Same H H' → Q .non H') ∧ (0 ≤ p → p ≤ hi - lo → ∀ r H', Same H H' → lo ≤ r → r ≤ hi → ahead ones tens hun scales lo hi r = p → Q (.int r) H'))
section
variable {P : Program} {w : World} {K : PySem.W.Frag} {mg : Str → Option Value} {base : Heap}
end
end LB
set_option Elab.async false
set_option linter.all false
set_option maxRecDepth 100000
set_option maxHeartbeats 4000000
/-! Great ranges: the law's helpers. -/
namespace LB
open PySem L2 Wk
open Bg (Bg Wo)
theorem Drawn.more {H G : Hp} {p : Addr} {s c n m : Int} (d : Drawn H p s c n G) (h : n ≤ m) : Drawn H p s c m G := by
  obtain ⟨d', c', a, b, k⟩ := d
  exact ⟨d', c', a, by omega, k⟩
def spName : Sp := fun vs H Q _ => ∃ (t o te sc : Addr) (ones tens : List Str) (hun : Str) (scales : List Str) (n : Int), vs = [.ref t, .int n] ∧ Tab H t ones tens hun scales o te sc ∧ 0 ≤ n ∧ n < Bg.W (scales.length + 1) ∧ ∀ H', Same H H' → Q (.str (nameT ones tens hun scales n)) H'
def spRange : Sp := fun vs H Q _ => ∃ (p : Addr) (d s c : Int) (k : Nat), vs = [.ref p, .int (Bg.W (k + 1))] ∧ RngAt H p d s c ∧ k ≤ 20 ∧ c < 2 ^ 28 ∧
  ∀ r lo hi H', 0 ≤ lo → lo ≤ hi → hi < Bg.W (k + 1) → H' r = some (.tup [.int lo, .int hi]) → Drawn H p s c 201 H' → Q (.ref r) H'
def spCntR : Sp := fun vs H Q _ => ∃ (p : Addr) (d s c : Int) (t o te sc : Addr) (ones tens : List Str) (hun : Str) (scales : List Str) (lo hi : Int), vs = [.ref p, .ref t, .int (Bg.W (scales.length + 1)), .int lo, .int hi] ∧ RngAt H p d s c ∧ c < 2 ^ 28 ∧
  Tab H t ones tens hun scales o te sc ∧ scales.length ≤ 20 ∧ 0 ≤ lo ∧ lo ≤ hi ∧ hi < Bg.W (scales.length + 1) ∧ ∀ H', Drawn H p s c 201 H' → Q (.bl true) H'
def spPlR : Sp := fun vs H Q _ => ∃ (p : Addr) (d s c : Int) (t o te sc : Addr) (ones tens : List Str) (hun : Str) (scales : List Str) (lo hi : Int), vs = [.ref p, .ref t, .int lo, .int hi] ∧ RngAt H p d s c ∧ c < 2 ^ 28 ∧
  Tab H t ones tens hun scales o te sc ∧ scales.length ≤ 20 ∧ 0 ≤ lo ∧ lo ≤ hi ∧ hi < Bg.W (scales.length + 1) ∧ ∀ H', Drawn H p s c 2 H' → Q (.bl true) H'
section
variable {ones tens : List Str} {hun : Str} {scales : List Str} {ws : List (Str × Wo)}
/-- one place, one number -/
theorem ahead_inj (V : Voc ones tens hun scales ws) {lo hi a b : Int} (lo0 : 0 ≤ lo) (h1 : hi < Bg.W (scales.length + 1)) (a0 : lo ≤ a) (a1 : a ≤ hi) (b0 : lo ≤ b) (b1 : b ≤ hi) (e : ahead ones tens hun scales lo hi a = ahead ones tens hun scales lo hi b) : a = b := by
  by_cases ne : a = b
  · exact ne
  · exfalso
    cases c : ltL (nmL ones tens hun scales a) (nmL ones tens hun scales b) with
    | true =>
      have := ahead_lt ones tens hun scales (lo := lo) (hi := hi) a0 a1 c
      omega
    | false =>
      have d := less_or V (by omega) (by omega) (by omega) (by omega) ne c
      have := ahead_lt ones tens hun scales (lo := lo) (hi := hi) b0 b1 d
      omega
theorem name_of_lt (good : GoodRow (ones ++ (tens ++ hun :: scales))) {lo hi a b : Int} (a0 : 0 ≤ a) (a1 : a < Bg.W (scales.length + 1)) (b0 : 0 ≤ b) (b1 : b < Bg.W (scales.length + 1)) (h : ahead ones tens hun scales lo hi a < ahead ones tens hun scales lo hi b) :
    WkI.ltS (nameT ones tens hun scales a) (nameT ones tens hun scales b) = true := by
  have e := name_lt (nm_good (ones := ones) (tens := tens) (hun := hun) (scales := scales) good a) (nm_good good b) (nm_ne b0 b1) (nm_ne a0 a1)
  show decide _ = true
  refine e.trans ?_
  cases c : ltL (nmL ones tens hun scales a) (nmL ones tens hun scales b) with
  | true => rfl
  | false =>
    have := ahead_mono ones tens hun scales (lo := lo) (hi := hi) c
    omega
theorem rising_all : ∀ {y : Str} {ys : List Str}, PyProof.Rows.risingS y ys = true → ∀ z ∈ ys, WkI.ltS z y = false
  | y, x :: r, h, z, hz => by
    have h' : (!PySem.Spec.ltCps x.cps.toList y.cps.toList && PyProof.Rows.risingS x r) = true := h
    rw [Bool.and_eq_true, PyProof.Rows.ltCps_eq] at h'
    have xy : WkI.ltS x y = false := by
      have q := h'.1
      rw [Bool.not_eq_true'] at q
      exact q
    rcases List.mem_cons.mp hz with rfl | hz
    · exact xy
    · exact (WkI.swoS (fun x : Str => x)).tr y x z xy (rising_all h'.2 z hz)
theorem sortedS_cons {y : Str} {ys : List Str} (h : PyProof.Rows.sortedS (y :: ys) = true) : PyProof.Rows.sortedS ys = true ∧ ∀ z ∈ ys, WkI.ltS z y = false := by
  refine ⟨?_, rising_all h⟩
  cases ys with
  | nil => rfl
  | cons x r =>
    have h' : (!PySem.Spec.ltCps x.cps.toList y.cps.toList && PyProof.Rows.risingS x r) = true := h
    rw [Bool.and_eq_true] at h'
    exact h'.2
/-- ascending texts, sorted, are themselves -/
theorem sorted_same : ∀ {xs ys : List Str}, ys.Perm xs → PyProof.Rows.sortedS ys = true → xs.Pairwise (fun a b => WkI.ltS a b = true) → ys = xs := by
  intro xs
  induction xs with
  | nil =>
    intro ys p _ _
    exact List.Perm.eq_nil p
  | cons x xs ih =>
    intro ys p s h
    obtain ⟨h1, h2⟩ := List.pairwise_cons.mp h
    cases ys with
    | nil => exact absurd p.length_eq (by simp)
    | cons y ys =>
      have tl : PyProof.Rows.sortedS ys = true ∧ ∀ z ∈ ys, WkI.ltS z y = false := sortedS_cons s
      have e : y = x := by
        have m := p.mem_iff.mp (List.mem_cons_self (a := y) (l := ys))
        rcases List.mem_cons.mp m with e | m
        · exact e
        · have m2 := p.mem_iff.mpr (List.mem_cons_self (a := x) (l := xs))
          rcases List.mem_cons.mp m2 with e | m2
          · exact e.symm
          · have a := h1 y m
            rw [tl.2 x m2] at a
            cases a
      subst e
      rw [ih (List.Perm.cons_inv p) tl.1 h2]
end
section
variable {P : Program} {w : World} {K : PySem.W.Frag} {mg : Str → Option Value} {base : Heap}
end
end LB
set_option Elab.async false
set_option linter.all false
set_option maxRecDepth 100000
set_option maxHeartbeats 4000000
/-! The words that follow, by the tree: what is due. -/
namespace LB
open PySem L2 Wk
open Bg (Bg Wo)
section
variable {ones tens : List Str} {hun : Str} {scales : List Str} {ws : List (Str × Wo)}
theorem sub_of {A : List Wo} {k : Nat} {n : Int} {c : Nat} (h : (Bg.nameW n (k + 1)).take c = A) : ∀ x ∈ A, x ∈ Bg.all k := fun x hx => by
  rw [← h] at hx
  exact Bg.name_all x (List.mem_of_mem_take hx)
theorem Sij_all {nm : Nat → List Str} (r : List Str) (c : Nat) : Sij nm 1000 0 r c ↔ ∃ n, n < 1000 ∧ r = nm n ∧ c ≤ r.length := by
  constructor
  · rintro (h | ⟨_, h⟩)
    · exact h
    · omega
  · exact fun h => .inl h
/-- what an entry of the tree holds -/
theorem ent_words (V : Voc ones tens hun scales ws) {L : List Wo} (hL : ∀ x ∈ L, x ∈ Bg.all scales.length) (lo : ∀ x ∈ L, Bg.isSc x = false) {N : Nat} {nx : List Str} {b : Bool} (ok : EntOk (Sij (nmN ones tens hun scales) 1000 0) N (L.map (wd ones tens hun scales)) nx b) :
    (∀ w, w ∈ nx ↔ ∃ x, x ∈ Bg.all scales.length ∧ w = wd ones tens hun scales x ∧ Bg.isSc x = false ∧ ∃ d, Bg.folL (Bg.start scales.length) (L ++ [x]) = some d) ∧ (b = true ↔ ∃ n : Nat, n < 1000 ∧ Bg.nameW (n : Int) (scales.length + 1) = L) := by
  have inj := fun {A B : List Wo} => rows_inj (ones := ones) (tens := tens) (hun := hun) (scales := scales) V.l1 V.l2 V.nd (A := A) (B := B)
  have cutE : ∀ (n c : Nat), (nmN ones tens hun scales n).take c = L.map (wd ones tens hun scales) ↔ (Bg.nameW (n : Int) (scales.length + 1)).take c = L := fun n c => by
    unfold nmN nmL
    rw [← List.map_take]
    exact ⟨fun h => inj (fun x hx => Bg.name_all x (List.mem_of_mem_take hx)) hL h, fun h => by rw [h]⟩
  constructor
  · intro w
    rw [ok.nxt w]
    constructor
    · rintro ⟨r, c, h1, h2, h3⟩
      obtain ⟨n, hn, rfl, _⟩ := (Sij_all r c).mp h1
      have e := (cutE n c).mp h2
      unfold nmN nmL at h3
      rw [List.getElem?_map] at h3
      obtain ⟨x, hx, rfl⟩ := Option.map_eq_some_iff.mp h3
      have xa := Bg.name_all x (List.mem_of_getElem? hx)
      exact ⟨x, xa, rfl, (tree_next V hL lo xa).mp ⟨n, c, hn, e, hx⟩⟩
    · rintro ⟨x, xa, rfl, hx⟩
      obtain ⟨n, c, hn, e, hx⟩ := (tree_next V hL lo xa).mpr hx
      have lt := (List.getElem?_eq_some_iff.mp hx).1
      refine ⟨nmN ones tens hun scales n, c, (Sij_all _ _).mpr ⟨n, hn, rfl, ?_⟩, (cutE n c).mpr e, ?_⟩
      · unfold nmN nmL
        rw [List.length_map]
        omega
      · unfold nmN nmL
        rw [List.getElem?_map, hx]
        rfl
  · rw [ok.ends]
    constructor
    · rintro ⟨r, c, h1, h2, h3⟩
      obtain ⟨n, hn, rfl, _⟩ := (Sij_all r c).mp h1
      rw [h3, List.take_length] at h2
      unfold nmN nmL at h2
      exact ⟨n, hn, inj Bg.name_all hL h2⟩
    · rintro ⟨n, hn, e⟩
      refine ⟨nmN ones tens hun scales n, (nmN ones tens hun scales n).length, (Sij_all _ _).mpr ⟨n, hn, rfl, Nat.le_refl _⟩, ?_, rfl⟩
      rw [List.take_length]
      unfold nmN nmL
      rw [e]
/-- the words of the open group stand in the tree -/
theorem key_there (V : Voc ones tens hun scales ws) {L : List Wo} (hL : ∀ x ∈ L, x ∈ Bg.all scales.length) (lo : ∀ x ∈ L, Bg.isSc x = false) {d : Bg} (h : Bg.folL (Bg.start scales.length) L = some d) :
    ∃ r c, Sij (nmN ones tens hun scales) 1000 0 r c ∧ r.take c = L.map (wd ones tens hun scales) := by
  by_cases z : L = []
  · subst z
    exact ⟨nmN ones tens hun scales 0, 0, (Sij_all _ _).mpr ⟨0, by decide, rfl, Nat.zero_le _⟩, rfl⟩
  · obtain ⟨n, hn, e⟩ := low_name V hL lo z h
    refine ⟨nmN ones tens hun scales n, (nmN ones tens hun scales n).length, (Sij_all _ _).mpr ⟨n, hn, rfl, Nat.le_refl _⟩, ?_⟩
    rw [List.take_length]
    unfold nmN nmL
    rw [e]
/-- the open group's words lead somewhere by themselves -/
theorem last_path {A : List Wo} {c : Bg} (hA : ∀ x ∈ A, x ∈ Bg.all scales.length) (h : Bg.folL (Bg.start scales.length) A = some c) : ∃ d, Bg.folL (Bg.start scales.length) (Bg.lastW scales.length A).2 = some d := by
  have gr := Bg.gr_path A [] (Bg.start_ok scales.length) (fun z => absurd rfl z) (Bg.gr_start _) (fun x hx => Bg.all_ok (hA x hx)) h
  rw [List.nil_append] at gr
  rcases gr with ⟨rfl, rfl⟩ | gr
  · exact ⟨_, h⟩
  · exact ⟨_, gr⟩
theorem last_low {A : List Wo} (hA : ∀ x ∈ A, x ∈ Bg.all scales.length) : (∀ x ∈ (Bg.lastW scales.length A).2, x ∈ Bg.all scales.length) ∧ ∀ x ∈ (Bg.lastW scales.length A).2, Bg.isSc x = false :=
  ⟨fun x hx => hA x (Bg.last_sub hx).1, fun x hx => by
    have := (Bg.last_sub hx).2
    cases x with
    | sc i => exact absurd rfl (this i)
    | low n => rfl
    | hun => rfl⟩
/-- the words that the program tells -/
def usT (ws : List (Str × Wo)) (c : Bg) : List Str := (stepsOf c ws).map (·.1)
theorem us_asc (V : Voc ones tens hun scales ws) (c : Bg) : (usT ws c).Pairwise fun a b => WkI.ltS a b = true := by
  unfold usT
  exact List.pairwise_map.mpr (steps_asc c V.asc)
theorem us_mem (V : Voc ones tens hun scales ws) (c : Bg) (w : Str) : w ∈ usT ws c ↔ ∃ x, x ∈ Bg.all scales.length ∧ w = wd ones tens hun scales x ∧ ∃ d, Bg.fol c x = some d := by
  unfold usT
  constructor
  · intro h
    obtain ⟨e, he, rfl⟩ := List.mem_map.mp h
    obtain ⟨z, hz, hf⟩ := List.mem_filterMap.mp he
    obtain ⟨d, hd, q⟩ := Option.map_eq_some_iff.mp hf
    obtain ⟨h1, h2⟩ := V.word hz
    subst q
    exact ⟨z.2, h2, h1, d, hd⟩
  · rintro ⟨x, xa, rfl, d, hd⟩
    exact List.mem_map.mpr ⟨_, steps_of_mem (V.mem xa) hd, rfl⟩
theorem us_nd (V : Voc ones tens hun scales ws) (c : Bg) : (usT ws c).Nodup := (us_asc V c).imp fun {a b} h e => by
  rw [e, ltS_irrefl] at h
  cases h
theorem due_sorted (V : Voc ones tens hun scales ws) {c : Bg} {xs ys : List Str} (nd : xs.Nodup) (h : ∀ w, w ∈ xs ↔ w ∈ usT ws c) (p : ys.Perm xs) (s : PyProof.Rows.sortedS ys = true) : ys = usT ws c :=
  sorted_same (p.trans ((List.perm_ext_iff_of_nodup nd (us_nd V c)).mpr h)) s (us_asc V c)
theorem due_len (V : Voc ones tens hun scales ws) {c : Bg} {xs : List Str} (nd : xs.Nodup) (h : ∀ w, w ∈ xs ↔ w ∈ usT ws c) (l : scales.length ≤ 20) : xs.length < 64 := by
  rw [((List.perm_ext_iff_of_nodup nd (us_nd V c)).mpr h).length_eq]
  unfold usT
  rw [List.length_map]
  have h1 : (stepsOf c ws).length ≤ ws.length := List.length_filterMap_le ..
  have h2 := V.all.length_eq
  rw [List.length_map] at h2
  have h3 : (Bg.all scales.length).length = 29 + scales.length := by
    have e := congrArg List.length (voc_snd (ones := ones) (tens := tens) (hun := hun) (scales := scales) V.l1 V.l2)
    rw [List.length_map, voc_len] at e
    have := V.l1
    have := V.l2
    omega
  omega
/-- behind a scale word: no zero -/
theorem due_bare (V : Voc ones tens hun scales ws) {A : List Wo} {c : Bg} (hA : ∀ x ∈ A, x ∈ Bg.all scales.length) (h : Bg.folL (Bg.start scales.length) A = some c) (l0 : (Bg.lastW scales.length A).2 = []) (ne : A ≠ []) {N : Nat} {nx : List Str} {b : Bool}
    (ok : EntOk (Sij (nmN ones tens hun scales) 1000 0) N ((Bg.lastW scales.length A).2.map (wd ones tens hun scales)) nx b) :
    (nx.filter fun w => !decide (w = wd ones tens hun scales (.low 0))).Nodup ∧ ∀ w, w ∈ (nx.filter fun w => !decide (w = wd ones tens hun scales (.low 0))) ↔ w ∈ usT ws c := by
  refine ⟨ok.nd.filter _, fun w => ?_⟩
  obtain ⟨hL, lo⟩ := last_low hA
  have e := (ent_words V hL lo ok).1
  have zin : Wo.low 0 ∈ Bg.all scales.length := Bg.low_all (Int.le_refl 0) (by decide)
  rw [List.mem_filter, us_mem V, e]
  rw [l0]
  constructor
  · rintro ⟨⟨x, xa, rfl, hs, d, hd⟩, z⟩
    refine ⟨x, xa, rfl, (Bg.due_set hA h x).mpr ?_⟩
    rw [if_pos l0]
    refine ⟨hs, ⟨d, hd⟩, .inr fun q => ?_⟩
    rw [q] at z
    simp at z
  · rintro ⟨x, xa, rfl, hd⟩
    have := (Bg.due_set hA h x).mp hd
    rw [if_pos l0] at this
    obtain ⟨hs, hd, z⟩ := this
    refine ⟨⟨x, xa, rfl, hs, hd⟩, ?_⟩
    have x0 : x ≠ .low 0 := z.resolve_left ne
    have : ¬ wd ones tens hun scales x = wd ones tens hun scales (.low 0) := fun q => x0 (V.inj xa zin q)
    simp [this]
/-- else: those of the open group, and lower scale words -/
theorem due_more (V : Voc ones tens hun scales ws) {A : List Wo} {c : Bg} (hA : ∀ x ∈ A, x ∈ Bg.all scales.length) (h : Bg.folL (Bg.start scales.length) A = some c) (l0 : (Bg.lastW scales.length A).2 ≠ [] ∨ A = []) {N : Nat} {nx : List Str} {b : Bool}
    (ok : EntOk (Sij (nmN ones tens hun scales) 1000 0) N ((Bg.lastW scales.length A).2.map (wd ones tens hun scales)) nx b) {more : List Str}
    (hm : more = if (Bg.lastW scales.length A).2 ≠ [] ∧ (Bg.lastW scales.length A).2 ≠ [.low 0] then scales.take (Bg.lastW scales.length A).1 else []) :
    (nx ++ more).Nodup ∧ (∀ w, w ∈ nx ++ more ↔ w ∈ usT ws c) ∧ b = decide (A ≠ []) := by
  obtain ⟨hL, lo⟩ := last_low hA
  obtain ⟨e, eb⟩ := ent_words V hL lo ok
  have lk := Bg.last_le hA
  have mm : ∀ w, w ∈ more ↔ ((Bg.lastW scales.length A).2 ≠ [] ∧ (Bg.lastW scales.length A).2 ≠ [.low 0]) ∧ ∃ i, i < (Bg.lastW scales.length A).1 ∧ w = wd ones tens hun scales (.sc i) := fun w => by
    rw [hm]
    by_cases z : (Bg.lastW scales.length A).2 ≠ [] ∧ (Bg.lastW scales.length A).2 ≠ [.low 0]
    · rw [if_pos z]
      constructor
      · intro q
        obtain ⟨i, hi⟩ := List.mem_iff_getElem?.mp q
        have il := (List.getElem?_eq_some_iff.mp hi).1
        rw [List.length_take] at il
        rw [List.getElem?_take_of_lt (by omega)] at hi
        have := wd_scale (ones := ones) (tens := tens) (hun := hun) (scales := scales) (i := i) (by omega)
        exact ⟨z, i, by omega, Option.some.inj (hi.symm.trans this)⟩
      · rintro ⟨_, i, hi, rfl⟩
        have := wd_scale (ones := ones) (tens := tens) (hun := hun) (scales := scales) (i := i) (by omega)
        refine List.mem_iff_getElem?.mpr ⟨i, ?_⟩
        rw [List.getElem?_take_of_lt hi]
        exact this
    · rw [if_neg z]
      exact ⟨fun q => (nomatch q), fun q => absurd q.1 z⟩
  have scnd : scales.Nodup := (List.nodup_cons.mp (List.nodup_append.mp (List.nodup_append.mp V.nd).2.1).2.1).2
  have mnd : more.Nodup := by
    rw [hm]
    split
    · exact scnd.sublist (List.take_sublist _ _)
    · exact List.nodup_nil
  refine ⟨List.nodup_append.mpr ⟨ok.nd, mnd, fun x hx y hy q => ?_⟩, fun w => ?_, ?_⟩
  · obtain ⟨u, ua, rfl, hs, _⟩ := (e x).mp hx
    obtain ⟨_, i, hi, rfl⟩ := (mm y).mp hy
    have := V.inj ua (Bg.sc_all (by omega)) q
    rw [this] at hs
    cases hs
  · rw [List.mem_append, us_mem V, e, mm]
    have ds := fun x => Bg.due_set hA h x
    constructor
    · rintro (⟨x, xa, rfl, hs, hd⟩ | ⟨z, i, hi, rfl⟩)
      · refine ⟨x, xa, rfl, (ds x).mpr ?_⟩
        by_cases q : (Bg.lastW scales.length A).2 = []
        · rw [if_pos q]
          rw [q] at hd
          exact ⟨hs, hd, .inl (l0.resolve_left fun y => y q)⟩
        · rw [if_neg q]
          exact .inl ⟨hs, hd⟩
      · refine ⟨.sc i, Bg.sc_all (by omega), rfl, (ds _).mpr ?_⟩
        rw [if_neg z.1]
        exact .inr ⟨z.2, i, rfl, hi⟩
    · rintro ⟨x, xa, rfl, hd⟩
      have := (ds x).mp hd
      by_cases q : (Bg.lastW scales.length A).2 = []
      · rw [if_pos q] at this
        obtain ⟨hs, hd, _⟩ := this
        refine .inl ⟨x, xa, rfl, hs, ?_⟩
        rw [q]
        exact hd
      · rw [if_neg q] at this
        rcases this with ⟨hs, hd⟩ | ⟨z, i, rfl, hi⟩
        · exact .inl ⟨x, xa, rfl, hs, hd⟩
        · exact .inr ⟨⟨q, z⟩, i, hi, rfl⟩
  · obtain ⟨d, hd⟩ := last_path hA h
    have tn := eb.trans (tree_name V hL lo hd)
    by_cases a0 : A = []
    · subst a0
      rw [decide_eq_false (fun z => z rfl)]
      cases hb : b with
      | false => rfl
      | true => exact absurd rfl (tn.mp hb)
    · rw [decide_eq_true a0]
      exact tn.mpr (l0.resolve_right a0)
end
end LB
set_option Elab.async false
set_option linter.all false
set_option maxRecDepth 100000
set_option maxHeartbeats 8000000
/-! The words that follow, by the law's tree: the law's own. -/
namespace LB
open PySem L2 Wk
open Bg (Bg Wo)
def spDueT : Sp := fun vs H Q _ => ∃ (dd t r o te sc : Addr) (ones tens : List Str) (hun : Str) (scales : List Str) (ws : List (Str × Wo)) (A : List Wo) (c : Bg) (kvs : List (List Key × V)), vs = [.ref dd, .ref t, .ref r] ∧ Tab H t ones tens hun scales o te sc ∧ Voc ones tens hun scales ws ∧
  H r = some (.lst ((A.map (wd ones tens hun scales)).map V.str)) ∧ A.length ≤ 1000 ∧ (∀ x ∈ A, x ∈ Bg.all scales.length) ∧ Bg.folL (Bg.start scales.length) A = some c ∧ scales.length ≤ 20 ∧ TreeK H dd (Sij (nmN ones tens hun scales) 1000 0) 6000 kvs ∧
  ∀ (R L : Addr) (H' : Hp), Same H H' → H' R = some (.lst [.ref L, .bl (decide (A ≠ []))]) → H' L = some (.lst ((usT ws c).map V.str)) → Q (.ref R) H'
section
variable {P : Program} {w : World} {K : PySem.W.Frag} {mg : Str → Option Value} {base : Heap}
theorem scDueT : FnScope ["tree", "sheet", "row", "scales", "last", "left", "spot", "word", "nexts", "ends", "more"] ["tree", "sheet", "row"] (defScope sDue) := ⟨rfl, rfl, rfl, by decide +kernel, rfl, by decide +kernel, by decide +kernel⟩
theorem ok_dueT {f : Addr} {fd : FuncData} (F : Fun K "_law_due" "_law_due" sDue f fd) (mE : mg "enumerate" = none) (mTu : mg "tuple" = none) (mS : mg "sorted" = none) :
    FnOk P w K mg base CX0 2 f fd ["tree", "sheet", "row"] spDueT := by
  refine F.ok scDueT (fun vs H Q E h => ?_) (fun cdv AA outer s H vs Q E hr h => ?_)
  · obtain ⟨dd, t, r, o, te, sc, ones, tens, hun, scales, ws, A, c, kvs, rfl, _⟩ := h
    rfl
  · obtain ⟨dd, t, r, o, te, sc, ones, tens, hun, scales, ws, A, c, kvs, rfl, TB, Vc, hR, al, hA, hc, l20, TT, k⟩ := h
    have hu := hu_of hr
    refine ⟨_, pss_cons (ps_par (i := 3) (j := 4) (by rfl) scDueT.nd rfl rfl (by decide) rfl rfl (pa_cons (pe_ix ix_tup (pv 1) pe_int (fun _ _ => rfl)) (pa_cons (pv 2) pa_nil)) (by rfl)) (pss_cons (ps_set (i := 5) scDueT.nd rfl (.inl rfl) (pv 3)) (pss_mid (ps_for PassesOwn.never rfl (pi_enum rfl mE (pa_cons (pv 2) pa_nil)) (pg_tup (by rfl) (pgs_cons (pg_name (i := 6) scDueT.nd rfl (.inl rfl)) (pgs_cons (pg_name (i := 7) scDueT.nd rfl (.inl rfl)) pgs_nil))) (pss_one (ps_if (pt_cmpR op_in_seq (pv 7) (pv 3) (by rfl)) (pss_one (ps_par (i := 4) (j := 5) (by rfl) scDueT.nd rfl rfl (by decide) rfl rfl (pa_cons (pe_slice sl_list (pv 2) (po_some (pe_op op_add (pv 6) pe_int)) po_none) (pa_cons (pe_slice sl_list (pv 3) po_none (po_some (pe_bm PySem.F.plainAttrs_list PySem.F.slot_list_index PySem.F.type_list_index mt_index (pv 3) (pa_cons (pv 7) pa_nil)))) pa_nil)) (by rfl))) pss_nil))) (pss_mid (ps_asg (pe_dget hu (pv 0) (pe_callTy call_tuple_of (by rfl) mTu (by decide +kernel) (pa_cons (pv 4) pa_nil)) (fun _ _ => rfl)) (pg_lst (by rfl) (pgs_cons (pg_name (i := 8) scDueT.nd rfl (.inl rfl)) (pgs_cons (pg_name (i := 9) scDueT.nd rfl (.inl rfl)) pgs_nil)))) (pss_mid (ps_if (PW.pt (pw_and (pt_cmpR (op_eqD hr.units) (pv 4) (pe_lst pa_nil) (nomark _)) (pw_and1 (pt_cmpR (op_neD hr.units) (pv 2) (pe_lst pa_nil) (nomark _))))) (pss_one (ps_ret (pe_lst (pa_cons (pe_callB cr_sortedS (by rfl) mS (by decide +kernel) (pa_cons (pe_lc (own := [("word", 7)]) (g := gName 7) (by rfl) scDueT.nd (pi_list (pv 8)) (blkOk_by (own := [("word", 7)]) (N := ["tree", "sheet", "row", "scales", "last", "left", "spot", "word", "nexts", "ends", "more"]) (sc := defScope sDue) (by decide +kernel)) (fun _ _ _ _ _ => pg_name (i := 7) scDueT.nd rfl (Or.inl rfl)) (fun _ _ _ _ _ => pts_one (pt_cmpR op_ne (pv 7) (pe_ix (r := rIxL K) ix_list (pe_ix (r := rIxT K) ix_tup (pv 1) pe_int (fun _ _ => rfl)) pe_int (fun _ _ => rfl)) (nomark _))) (fun _ _ _ _ _ => pv 7)) pa_nil)) (pa_cons pe_bl pa_nil))))) pss_nil) (pss_mid (ps_set (i := 10) scDueT.nd rfl (.inl rfl) (pe_ifExp (PW.pt (pw_and (pt_cmpR (op_neD hr.units) (pv 4) (pe_lst pa_nil) (nomark _)) (pw_and1 (pt_cmpR (op_neD hr.units) (pv 4) (pe_lst (pa_cons (pe_ix ix_list (pe_ix ix_tup (pv 1) pe_int (fun _ _ => rfl)) pe_int (fun _ _ => rfl)) pa_nil)) (nomark _))))) (pv 5) (pe_lst pa_nil))) (pss_one (ps_ret (pe_lst (pa_cons (pe_callB cr_sortedS (by rfl) mS (by decide +kernel) (pa_cons (pe_op op_cat (pv 8) (pv 10)) pa_nil)) (pa_cons (pv 9) pa_nil)))))))))), ?_⟩
    have TA := TB.tb.at_
    have l1 := TB.tb.l1
    have l2 := TB.tb.l2
    have nd := TB.good.nd
    have big : 10000 ≤ sizeLine := by decide
    have low := names_low (ones := ones) (tens := tens) (hun := hun) (scales := scales) TB.good
    have insc := fun {x : Wo} (hx : x ∈ Bg.all scales.length) => in_scales (ones := ones) (tens := tens) (hun := hun) l1 l2 nd hx
    have scat : ∀ {i : Nat}, i < scales.length → scales[i]? = some (wd ones tens hun scales (.sc i)) := fun h => wd_scale h
    have snd : scales.Nodup := (List.nodup_cons.mp (List.nodup_append.mp (List.nodup_append.mp nd).2.1).2.1).2
    have rinj := fun {A B : List Wo} => rows_inj (ones := ones) (tens := tens) (hun := hun) (scales := scales) l1 l2 nd (A := A) (B := B)
    have zat : ones[0]? = some (wd ones tens hun scales (.low 0)) := wd_ones (tens := tens) (hun := hun) (scales := scales) l1 (j := 0) (by decide)
    have zat2 : atI (ones.map V.str) 0 = some (.str (wd ones tens hun scales (.low 0))) := atI_nat (j := 0) (by rw [List.getElem?_map, zat]; rfl)
    have zin : Wo.low 0 ∈ Bg.all scales.length := Bg.low_all (Int.le_refl 0) (by decide)
    have bare := @due_bare ones tens hun scales ws Vc A c hA hc
    have more := @due_more ones tens hun scales ws Vc A c hA hc
    have there := key_there Vc (last_low hA).1 (last_low hA).2 (last_path hA hc).choose_spec
    have lk := Bg.last_le hA
    have lall := (last_low hA).1
    refine ⟨_, rfl, t, _, _, _, rfl, rfl, SqT.of TA.tup, (rfl : atI [V.ref o, V.ref te, V.str hun, V.ref sc] 3 = some (.ref sc)), _, rfl, _, _, rfl, _, rfl, ?_⟩
    -- the open group
    refine ⟨fun τ G => ∃ (L U : Addr) (x6 x7 : Option V), τ = [some (.ref dd), some (.ref t), some (.ref r), some (.ref sc), some (.ref L), some (.ref U), x6, x7, none, none, none] ∧ Same H G ∧ G L = some (.lst (((Bg.lastW scales.length A).2.map (wd ones tens hun scales)).map V.str)) ∧ G U = some (.lst ((scales.take (Bg.lastW scales.length A).1).map V.str)), ?_, ?_⟩
    · generalize hwd : wd ones tens hun scales = f at hR low insc scat
      refine ⟨_, rfl, r, _, rfl, SqL.of hR, ?_⟩
      refine for_it (walk_enum (K := K) (a := r) (xs := (A.map f).map V.str)) (fun i τ G => ∃ (L U : Addr) (x6 x7 : Option V), τ = [some (.ref dd), some (.ref t), some (.ref r), some (.ref sc), some (.ref L), some (.ref U), x6, x7, none, none, none] ∧
        Same H G ∧ G L = some (.lst ((((Bg.lastW scales.length (A.take i)).2 ++ A.drop i).map f).map V.str)) ∧ G U = some (.lst ((scales.take (Bg.lastW scales.length (A.take i)).1).map V.str))) ⟨r, sc, none, none, rfl, Same.refl H, hR, by
          show H sc = some (.lst ((scales.take scales.length).map V.str))
          rw [List.take_length]
          exact TA.ls⟩ ?_ ?_ ?_
      · rintro i τ G _ ⟨L, U, x6, x7, rfl, s1, _⟩
        exact SqL.of (s1 _ _ hR)
      · rintro i xx τ G G' hi ⟨L, U, x6, x7, rfl, s1, hL, hU⟩ ⟨T, y1, y2, rfl, nT, rfl, hy1, hy2⟩
        cases hy1
        obtain ⟨z, hz, rfl⟩ := str_at (show ((A.map f).map V.str)[i]? = some y2 from hy2)
        rw [List.getElem?_map] at hz
        obtain ⟨x, hx, rfl⟩ := Option.map_eq_some_iff.mp hz
        have xa := hA x (List.mem_of_getElem? hx)
        have s2 := s1.trans (same_new (x := .tup [.int (i : Nat), .str (f x)]) nT)
        have tk : A.take (i + 1) = A.take i ++ [x] := by rw [List.take_add_one, hx]; rfl
        have dr : A.drop i = x :: A.drop (i + 1) := by
          obtain ⟨h, e'⟩ := List.getElem?_eq_some_iff.mp hx
          rw [List.drop_eq_getElem_cons h, e']
        have il : i < A.length := (List.getElem?_eq_some_iff.mp hx).1
        refine ⟨T, _, rfl, SqT.of upd_same, rfl, _, _, rfl, _, _, rfl, rfl, ?_⟩
        refine ⟨_, rfl, _, rfl, sc, _, rfl, .inl (SqL.of (s2 _ _ TA.ls)), rfl, strs_flat _, _, rfl, ?_⟩
        show (if inV (.str (f x)) (scales.map V.str) = true then _ else _)
        rw [inV_strs]
        refine ite2 (fun c1 => ?_) (fun c1 => ?_)
        · obtain ⟨j, jl, rfl⟩ := (insc xa).mp (of_decide_eq_true c1)
          have hj := scat jl
          refine ⟨_, rfl, _, rfl, _, _, rfl, rfl, _, rfl, r, _, rfl, SqL.of (s2 _ _ hR), fun u nu => ?_⟩
          have s3 := s2.trans (same_new (x := .lst (cutV ((A.map f).map V.str) (some ((i : Int) + 1)) none)) nu)
          have hu3 : upd (upd G T (.tup [.int (i : Nat), .str (f (.sc j))])) u (.lst (cutV ((A.map f).map V.str) (some ((i : Int) + 1)) none)) u = some (.lst (((A.drop (i + 1)).map f).map V.str)) := by
            rw [upd_same]
            have e := cut_fromJ ((A.map f).map V.str) (i + 1)
            rw [← List.map_drop, ← List.map_drop] at e
            exact congrArg (fun z => some (HO.lst z)) e
          generalize upd (upd G T (.tup [.int (i : Nat), .str (f (.sc j))])) u (.lst (cutV ((A.map f).map V.str) (some ((i : Int) + 1)) none)) = G3 at s3 hu3
          refine ⟨_, rfl, _, rfl, .inl ⟨rfl, _, SqL.of (s3 _ _ TA.ls)⟩, _, rfl, sc, _, _, j, .str (f (.sc j)), rfl, rfl, SqL.of (s3 _ _ TA.ls), rfl, strs_flat _, by rw [List.getElem?_map, hj]; rfl, by show (f (.sc j) == f (.sc j)) = true; simp, fun m z' hm hz' => ?_, ?_⟩
          · rw [List.getElem?_map] at hz'
            obtain ⟨y, hy, rfl⟩ := Option.map_eq_some_iff.mp hz'
            show (y == f (.sc j)) = false
            refine beq_false_of_ne fun e => ?_
            rw [e] at hy
            have ml : m < scales.length := (List.getElem?_eq_some_iff.mp hy).1
            have := (List.getElem?_inj ml snd).mp (hy.trans hj.symm)
            omega
          · refine ⟨_, rfl, sc, _, rfl, SqL.of (s3 _ _ TA.ls), fun v nv => ⟨_, _, rfl, u, v, some (.int (i : Nat)), some (.str (f (.sc j))), ?_, s3.trans (same_new nv), ?_, ?_⟩⟩
            · rfl
            · rw [tk, Bg.lastW_snoc]
              exact same_new nv _ _ hu3
            · rw [upd_same, tk, Bg.lastW_snoc, cut_toJ, List.map_take]
        · have ns : ∀ j, x ≠ .sc j := fun j e => c1 (decide_eq_true ((insc xa).mpr ⟨j, by rw [e] at xa; exact Bg.sc_in xa, e⟩))
          have e1 : Bg.lastW scales.length (A.take i ++ [x]) = ((Bg.lastW scales.length (A.take i)).1, (Bg.lastW scales.length (A.take i)).2 ++ [x]) := by
            rw [Bg.lastW_snoc]
            cases x with
            | sc j => exact absurd rfl (ns j)
            | low n => rfl
            | hun => rfl
          refine ⟨L, U, some (.int (i : Nat)), some (.str (f x)), rfl, s2, ?_, ?_⟩
          · rw [tk, e1, List.append_assoc, List.singleton_append, ← dr]
            exact upd_keepJ hL nT
          · rw [tk, e1]
            exact upd_keepJ hU nT
      · rintro τ G ⟨L, U, x6, x7, rfl, s1, hL, hU⟩
        rw [List.length_map, List.length_map, List.take_length] at *
        rw [List.drop_length, List.append_nil] at hL
        exact ⟨L, U, x6, x7, rfl, s1, hL, hU⟩
    rintro τ G ⟨L, U, x6, x7, rfl, s1, hL, hU⟩
    obtain ⟨LW, hLW⟩ : ∃ z, z = (Bg.lastW scales.length A).2 := ⟨_, rfl⟩
    obtain ⟨m, hm⟩ : ∃ z, z = (Bg.lastW scales.length A).1 := ⟨_, rfl⟩
    rw [← hLW] at hL bare more there lall
    rw [← hm] at hU lk more
    -- the entry
    have T1 := TT.same s1
    refine ⟨fun τ G2 => ∃ (e : Addr) (b : Bool) (nx : List Str), τ = [some (.ref dd), some (.ref t), some (.ref r), some (.ref sc), some (.ref L), some (.ref U), x6, x7, some (.ref e), some (.bl b), none] ∧ Same G G2 ∧ G2 e = some (.lst (nx.map V.str)) ∧ EntOk (Sij (nmN ones tens hun scales) 1000 0) 6000 (LW.map (wd ones tens hun scales)) nx b, ?_, ?_⟩
    · refine ⟨_, rfl, _, rfl, L, _, rfl, .inl ⟨SqL.of hL, fun u nu => ?_⟩⟩
      have q := same_new (x := .tup ((LW.map (wd ones tens hun scales)).map V.str)) nu
      have hu' : upd G u (.tup ((LW.map (wd ones tens hun scales)).map V.str)) u = some (.tup ((KS (LW.map (wd ones tens hun scales))).map kV)) := by
        rw [upd_same, KS_kV]
      have T2 := T1.same q
      rcases T2.val (LW.map (wd ones tens hun scales)) with ⟨a, nx, b, h1, ⟨l, h2, h3⟩, ok, _⟩ | ⟨_, h2⟩
      · refine ⟨dd, .ref a, rfl, ?_, a, _, rfl, SqL.of h2, rfl, _, _, rfl, _, _, rfl, rfl, ?_⟩
        · rw [← h1]
          exact DGet.t T2.at_ hu'
        · exact ⟨l, b, nx, rfl, q, h3, ok⟩
      · obtain ⟨r', c', z1, z2⟩ := there
        exact absurd z2 (h2 r' c' z1)
    rintro τ G2 ⟨e, b, nx, rfl, s2, he, ok⟩
    have bare := fun a b => bare a b ok
    have nxl := ok.len
    have s12 := s1.trans s2
    have hL2 := s2 _ _ hL
    have hU2 := s2 _ _ hU
    -- last == []
    refine ⟨fun τ G3 => τ = [some (.ref dd), some (.ref t), some (.ref r), some (.ref sc), some (.ref L), some (.ref U), x6, x7, some (.ref e), some (.bl b), none] ∧ Same G2 G3 ∧ (LW ≠ [] ∨ A = []), ?_, ?_⟩
    · refine ⟨_, rfl, Nat.zero_le _, fun p1 n1 => ?_⟩
      have r1 := same_new (x := .lst []) n1
      refine ⟨_, _, .lst (SqL.of (r1 _ _ hL2)) (wds_dp _), .lst (SqL.of upd_same) .nil, wds_shaped (low LW), by decide, _, rfl, ?_⟩
      rw [wds_eqv]
      generalize upd G2 p1 (.lst []) = G3 at r1
      refine ite2 (fun c1 => ?_) (fun c1 => ?_)
      · have l0 : LW = [] := by
          cases LW with
          | nil => rfl
          | cons x l => cases c1
        refine ⟨_, rfl, Nat.zero_le _, fun p2 n2 => ?_⟩
        have r2 := r1.trans (same_new (x := .lst []) n2)
        have hR2 := r2 _ _ (s12 _ _ hR)
        refine ⟨_, _, .lst (SqL.of hR2) (wds_dp _), .lst (SqL.of upd_same) .nil, wds_shaped (low A), by decide, _, rfl, ?_⟩
        rw [wds_eqv]
        generalize upd G3 p2 (.lst []) = G4 at r2
        refine ite2 (fun c2 => ?_) (fun c2 => ?_)
        · have ane : A ≠ [] := fun z => by
            rw [z] at c2
            cases c2
          obtain ⟨bnd, bmem⟩ := bare l0 ane
          have he4 := r2 _ _ he
          have s14 := s12.trans r2
          obtain ⟨zw, hzw⟩ : ∃ z, z = wd ones tens hun scales (.low 0) := ⟨_, rfl⟩
          rw [← hzw] at bnd bmem zat2
          refine ⟨_, rfl, e, rfl, ⟨_, SqL.of he4⟩, fun D nD => lc_it (walk_list (K := K) (a := e) (xs := nx.map V.str)) (fun j G' => G' D = some (.lst (((nx.take j).filter (fun w => !decide (w = zw))).map V.str)) ∧ Same G4 G') ⟨upd_same, same_new nD⟩ (fun j G' _ ⟨_, s⟩ => SqL.of (s _ _ he4)) ?_ ?_⟩
          · rintro j x Ga Gb hj ⟨hD, sG⟩ ⟨rfl, hx⟩
            obtain ⟨w, hw, rfl⟩ := str_at (show (nx.map V.str)[j]? = some x from hx)
            have tk : (nx.take (j + 1)).filter (fun w => !decide (w = zw)) = (nx.take j).filter (fun w => !decide (w = zw)) ++ (if (fun w => !decide (w = zw)) w = true then [w] else []) := by
              rw [List.take_add_one, hw, List.filter_append]
              show _ ++ [w].filter _ = _
              rw [List.filter_cons, List.filter_nil]
            have lnf := List.length_filter_le (fun w => !decide (w = zw)) (nx.take j)
            have jl : j < nx.length := (List.getElem?_eq_some_iff.mp hw).1
            rw [List.length_take] at lnf
            have sT := s14.trans sG
            refine ⟨rfl, _, rfl, _, rfl, t, _, _, _, rfl, rfl, SqT.of (sT _ _ TA.tup), (rfl : atI [V.ref o, V.ref te, V.str hun, V.ref sc] 0 = some (.ref o)), o, _, _, _, rfl, rfl, SqL.of (sT _ _ TA.lo), zat2, rfl, _, rfl, ite2 (fun c => ?_) (fun c => ?_)⟩
            · have c' : (fun w => !decide (w = zw)) w = true := by
                by_cases z : w = zw
                · subst z
                  simp at c
                · simp [z]
              refine ⟨_, rfl, _, hD, by rw [List.length_map]; omega, ?_, fun q' o' e' => ?_⟩
              · rw [upd_same, tk, if_pos c', List.map_append]
                rfl
              · rw [upd_ne (ne_of_none e' nD)]
                exact sG _ _ e'
            · have c' : ¬ (fun w => !decide (w = zw)) w = true := by
                by_cases z : w = zw
                · simp [z]
                · exfalso
                  apply c
                  simp [z]
              refine ⟨?_, sG⟩
              rw [tk, if_neg c', List.append_nil]
              exact hD
          rintro G5 ⟨hD, s5⟩
          rw [List.length_map, List.take_length] at hD
          refine ⟨D, _, rfl, SqL.of hD, due_len Vc bnd bmem l20, fun ys p3 pm so n3 => ?_⟩
          have yu := due_sorted Vc bnd bmem pm so
          subst yu
          have r5 := s5.trans (same_new (x := .lst ((usT ws c).map V.str)) n3)
          have hp3 : upd G5 p3 (.lst ((usT ws c).map V.str)) p3 = some (.lst ((usT ws c).map V.str)) := upd_same
          generalize upd G5 p3 (.lst ((usT ws c).map V.str)) = G6 at r5 hp3
          refine ⟨by show 2 ≤ sizeLine; omega, fun R nR => ?_⟩
          refine k R p3 _ ((s14.trans r5).trans (same_new nR)) ?_ (same_new nR _ _ hp3)
          rw [upd_same, decide_eq_true ane]
        · have a0 : A = [] := by
            cases A with
            | nil => rfl
            | cons x l => exact absurd rfl c2
          exact ⟨rfl, r2, .inr a0⟩
      · have ne : LW ≠ [] := fun z => c1 (by rw [z]; rfl)
        exact ⟨rfl, r1, .inl ne⟩
    rintro τ G3 ⟨rfl, s3, lor⟩
    have hL3 := s3 _ _ hL2
    have hU3 := s3 _ _ hU2
    have he3 := s3 _ _ he
    have s13 := s12.trans s3
    -- more
    refine ⟨fun τ G4 => ∃ M : Addr, τ = [some (.ref dd), some (.ref t), some (.ref r), some (.ref sc), some (.ref L), some (.ref U), x6, x7, some (.ref e), some (.bl b), some (.ref M)] ∧ Same G3 G4 ∧ G4 M = some (.lst ((if LW ≠ [] ∧ LW ≠ [.low 0] then scales.take m else []).map V.str)), ?_, ?_⟩
    · have none : ¬ (LW ≠ [] ∧ LW ≠ [.low 0]) → ∀ {G5 : Hp}, Same G3 G5 → ∀ p, G5 p = none → ∃ M : Addr, [some (.ref dd), some (.ref t), some (.ref r), some (.ref sc), some (.ref L), some (.ref U), x6, x7, some (.ref e), some (.bl b), some (V.ref p)] = [some (.ref dd), some (.ref t), some (.ref r), some (.ref sc), some (.ref L), some (.ref U), x6, x7, some (.ref e), some (.bl b), some (.ref M)] ∧ Same G3 (upd G5 p (.lst [])) ∧ upd G5 p (.lst []) M = some (.lst ((if LW ≠ [] ∧ LW ≠ [.low 0] then scales.take m else []).map V.str)) := fun z {G5} s5 p np => by
        refine ⟨p, rfl, s5.trans (same_new np), ?_⟩
        rw [if_neg z, upd_same]
        rfl
      refine ⟨_, rfl, Nat.zero_le _, fun p1 n1 => ?_⟩
      have r1 := same_new (x := .lst []) n1
      refine ⟨_, _, .lst (SqL.of (r1 _ _ hL3)) (wds_dp _), .lst (SqL.of upd_same) .nil, wds_shaped (low LW), by decide, _, rfl, ?_⟩
      rw [wds_eqv]
      generalize upd G3 p1 (.lst []) = G4 at r1
      refine ite2 (fun c1 => ?_) (fun c1 => ?_)
      · have ne : LW ≠ [] := fun z => by
          rw [z] at c1
          cases c1
        refine ⟨_, rfl, _, rfl, t, _, _, _, rfl, rfl, SqT.of (r1 _ _ (s13 _ _ TA.tup)), (rfl : atI [V.ref o, V.ref te, V.str hun, V.ref sc] 0 = some (.ref o)), o, _, _, _, rfl, rfl, SqL.of (r1 _ _ (s13 _ _ TA.lo)), zat2, by show 1 ≤ sizeLine; omega, fun p2 n2 => ?_⟩
        have r2 := r1.trans (same_new (x := .lst [.str (wd ones tens hun scales (.low 0))]) n2)
        refine ⟨_, .list (([wd ones tens hun scales (.low 0)] : List Str).map PyData.str), .lst (SqL.of (r2 _ _ hL3)) (wds_dp _), .lst (SqL.of upd_same) (wds_dp [wd ones tens hun scales (.low 0)]), wds_shaped (low LW), wds_shaped (low [.low 0]), _, rfl, ?_⟩
        rw [strs_eqv]
        generalize upd G4 p2 (.lst [.str (wd ones tens hun scales (.low 0))]) = G5 at r2
        have zz : LW.map (wd ones tens hun scales) = [wd ones tens hun scales (.low 0)] ↔ LW = [.low 0] := ⟨fun h => rinj lall (fun x hx => by rw [List.mem_singleton.mp hx]; exact zin) h, fun h => by rw [h]; rfl⟩
        refine ite2 (fun c2 => ?_) (fun c2 => ?_)
        · have n0 : LW ≠ [.low 0] := fun z => by
            rw [decide_eq_true (zz.mpr z)] at c2
            cases c2
          refine ⟨_, rfl, U, rfl, r2, ?_⟩
          rw [if_pos ⟨ne, n0⟩]
          exact r2 _ _ hU3
        · have n0 : LW = [.low 0] := by
            rcases Decidable.em (LW.map (wd ones tens hun scales) = [wd ones tens hun scales (.low 0)]) with z | z
            · exact zz.mp z
            · rw [decide_eq_false z] at c2
              exact absurd rfl c2
          exact ⟨Nat.zero_le _, fun p3 n3 => none (fun z => z.2 n0) r2 p3 n3⟩
      · have l0 : LW = [] := by
          cases LW with
          | nil => rfl
          | cons x l => exact absurd rfl c1
        exact ⟨Nat.zero_le _, fun p3 n3 => none (fun z => z.1 l0) r1 p3 n3⟩
    rintro τ G4 ⟨M, rfl, s4, hM⟩
    obtain ⟨mnd, mmem, mb⟩ := more lor ok rfl
    generalize (if LW ≠ [] ∧ LW ≠ [.low 0] then scales.take m else []) = mo at hM mnd mmem
    have ml := due_len Vc mnd mmem l20
    rw [List.length_append] at ml
    have s14 := s13.trans s4
    have he4 := s4 _ _ he3
    refine ⟨_, rfl, _, rfl, e, M, _, _, rfl, rfl, he4, hM, by rw [List.length_map, List.length_map]; omega, fun Z nZ => ?_⟩
    have r1 := same_new (x := .lst (nx.map V.str ++ mo.map V.str)) nZ
    have hZ : upd G4 Z (.lst (nx.map V.str ++ mo.map V.str)) Z = some (.lst ((nx ++ mo).map V.str)) := by
      rw [upd_same, List.map_append]
    generalize upd G4 Z (.lst (nx.map V.str ++ mo.map V.str)) = G5 at r1 hZ
    refine ⟨Z, _, rfl, SqL.of hZ, due_len Vc mnd mmem l20, fun ys p3 pm so n3 => ?_⟩
    have yu := due_sorted Vc mnd mmem pm so
    subst yu
    have r5 := r1.trans (same_new (x := .lst ((usT ws c).map V.str)) n3)
    have hp3 : upd G5 p3 (.lst ((usT ws c).map V.str)) p3 = some (.lst ((usT ws c).map V.str)) := upd_same
    generalize upd G5 p3 (.lst ((usT ws c).map V.str)) = G6 at r5 hp3
    refine ⟨_, rfl, by show 2 ≤ sizeLine; omega, fun R nR => ?_⟩
    refine k R p3 _ ((s14.trans r5).trans (same_new nR)) ?_ (same_new nR _ _ hp3)
    rw [upd_same, mb]
end
end LB
set_option Elab.async false
set_option linter.all false
set_option maxRecDepth 100000
set_option maxHeartbeats 4000000
/-! repr of data of many parts: one bound for all. -/
namespace Wk
open PySem L2
/-- data whose text is not too long: w its weight, n its depth -/
structure Sh (w n : Nat) (d : PyData) : Prop where
  sh : d.showable = true
  nd : d.hasDict = false
  dp : d.depth ≤ n
  ls : d.leavesShort 640 = true
  wt : d.weight ≤ w
structure ShA (w n : Nat) (ds : List PyData) : Prop where
  sh : PyData.showableAll ds = true
  nd : PyData.hasDictAll ds = false
  dp : PyData.depthAll ds ≤ n
  ls : PyData.leavesShortAll 640 ds = true
  wt : PyData.weightAll ds ≤ w
theorem Sh.mono {w w' n n' : Nat} {d : PyData} (h : Sh w n d) (a : w ≤ w') (b : n ≤ n') : Sh w' n' d := ⟨h.sh, h.nd, Nat.le_trans h.dp b, h.ls, Nat.le_trans h.wt a⟩
theorem ShA.mono {w w' n n' : Nat} {ds : List PyData} (h : ShA w n ds) (a : w ≤ w') (b : n ≤ n') : ShA w' n' ds := ⟨h.sh, h.nd, Nat.le_trans h.dp b, h.ls, Nat.le_trans h.wt a⟩
theorem ShA.nil : ShA 0 0 [] := ⟨rfl, rfl, Nat.le_refl _, rfl, Nat.le_refl _⟩
theorem ShA.cons {w1 w2 n : Nat} {d : PyData} {ds : List PyData} (h : Sh w1 n d) (r : ShA w2 n ds) : ShA (w1 + 1 + w2) n (d :: ds) where
  sh := by rw [PyData.showableAll, h.sh, r.sh]; rfl
  nd := by rw [PyData.hasDictAll, h.nd, r.nd]; rfl
  dp := by rw [PyData.depthAll]; exact Nat.max_le.mpr ⟨h.dp, r.dp⟩
  ls := by rw [PyData.leavesShortAll, h.ls, r.ls]; rfl
  wt := by
    rw [PyData.weightAll]
    have a := h.wt
    have b := r.wt
    omega
theorem Sh.list {w n : Nat} {ds : List PyData} (h : ShA w n ds) : Sh w (n + 1) (.list ds) where
  sh := by rw [PyData.showable]; exact h.sh
  nd := by rw [PyData.hasDict]; exact h.nd
  dp := by rw [PyData.depth]; have := h.dp; omega
  ls := by rw [PyData.leavesShort]; exact h.ls
  wt := by rw [PyData.weight]; exact h.wt
theorem Sh.tup {w n : Nat} {ds : List PyData} (h : ShA w n ds) : Sh w (n + 1) (.tuple ds) where
  sh := by rw [PyData.showable]; exact h.sh
  nd := by rw [PyData.hasDict]; exact h.nd
  dp := by rw [PyData.depth]; have := h.dp; omega
  ls := by rw [PyData.leavesShort]; exact h.ls
  wt := by rw [PyData.weight]; exact h.wt
theorem Sh.none : Sh 0 0 .none := ⟨rfl, rfl, by decide, rfl, by decide⟩
theorem Sh.str {x : Str} {n : Nat} (h : x.length ≤ n) (c : ∀ c ∈ x.cps.toList, c < 128) : Sh n 0 (.str x) where
  sh := rfl
  nd := rfl
  dp := by rw [PyData.depth]; exact Nat.le_refl _
  ls := by
    simp only [PyData.leavesShort, List.all_eq_true, decide_eq_true_eq]
    intro y hy
    have := c y hy
    have e : (16 : Nat) ^ 8 = 4294967296 := by decide
    omega
  wt := h
theorem big_ten : (2 : Nat) ^ 1000 ≤ 10 ^ 400 := by
  have a : (2 : Nat) ^ 1000 = (2 ^ 10) ^ 100 := by rw [← Nat.pow_mul]
  have b : (10 : Nat) ^ 400 = (10 ^ 4) ^ 100 := by rw [← Nat.pow_mul]
  rw [a, b]
  exact Nat.pow_le_pow_left (by decide) 100
theorem Sh.int {i : Int} (h : i.natAbs < 2 ^ 1000) : Sh 1001 0 (.int i) where
  sh := by
    rw [PyData.showable]
    refine decide_eq_true ?_
    by_cases z : i.natAbs = 0
    · rw [z]
      decide
    · have q := (Nat.log2_lt z).mpr h
      omega
  nd := rfl
  dp := by rw [PyData.depth]; exact Nat.le_refl _
  ls := by
    rw [PyData.leavesShort]
    refine decide_eq_true ?_
    have e := int_text_length_le10 (k := 400) (by decide) (Nat.lt_of_lt_of_le h big_ten)
    show (Str.ofString (toString i)).length ≤ 640
    rw [ofString_length]
    omega
  wt := by
    rw [PyData.weight]
    split
    · exact Nat.zero_le _
    · by_cases z : i.natAbs = 0
      · rw [z]
        decide
      · have q := (Nat.log2_lt z).mpr h
        omega
theorem ShA.strs {m : Nat} : ∀ {ws : List Str}, (∀ x ∈ ws, x.length ≤ m ∧ ∀ c ∈ x.cps.toList, c < 128) → ShA ((m + 1) * ws.length) 0 (ws.map PyData.str)
  | [], _ => .nil
  | x :: ws, h => by
    refine (ShA.cons (Sh.str (h x List.mem_cons_self).1 (h x List.mem_cons_self).2) (ShA.strs fun y hy => h y (List.mem_cons_of_mem _ hy))).mono ?_ (Nat.le_refl _)
    rw [List.length_cons, Nat.mul_succ]
    omega
/-- what call_repr asks -/
theorem Sh.repr {w n : Nat} {d : PyData} {K : PySem.W.Frag} {v : V} {H : Hp} {Q : VK} (h : Sh w n d) (hw : w ≤ 20000) (hn : n ≤ 60) (r : Dp K H v d) (q : Q (.str d.shown) H) : rRepr K [v] H Q := by
  refine ⟨v, d, rfl, r, h.sh, h.nd, Nat.le_trans h.dp hn, .inl ?_, q⟩
  have z := PyData.shown_le 640 (by decide) d h.ls
  have y : (640 + 2) * d.weight ≤ 642 * 20000 := Nat.mul_le_mul_left _ (Nat.le_trans h.wt hw)
  rw [sizeLine_eq]
  omega
end Wk
set_option Elab.async false
set_option linter.all false
set_option maxRecDepth 100000
set_option maxHeartbeats 4000000
/-! f(k = v, ..): keywords alone; what is raised is wished for at the caller's slots. -/
namespace Wk
open PySem PySem.Spec PyProof.Rows L2
def tCallKS (m : Nat) (sp : Sp) (gV : List V → List V → List V) (E : L2.St → XK) (tk : TA) : TE := fun σ H Q => tk σ H fun zs H2 => zs.length = m ∧ sp (gV [] zs) H2 Q (E σ)
section
variable {X : Cx} {CX : CXT} {k : Nat} {f : Addr} {fd : FuncData} {ps ks : List Str} {sp : Sp} {E : L2.St → XK} {x : Str} {p pos : Pos} {kws : List Keyword} {tk : TA} {g : List Value → List Value → List Value} {gV : List V → List V → List V}
theorem run_fnKS {pins : List (Addr × Obj)} {σ : L2.St} {H : Hp} {s : Shared} {Q : VK} {ws : List Value} {zs : List V} (F : FnOk X.prog X.w X.K X.mg X.base CX k f fd ps sp) (hr : Room k X.A) (hb : KBn X.K fd ps 0 ks g gV) (hx : PassesAt CX X σ (E σ))
    (I : L2.Inv X pins σ H s) (rz : Vals zs ws) (l2 : zs.length = ks.length) (h : sp (gV [] zs) H Q (E σ)) : wpAny (model X.prog X.w) X.A (call (.ref f) [] (ks.zip ws)) (EP X pins σ Q) X.xe s := by
  have r2 := hb.rel .nil rz
  refine wpAny_call (codeAny_mono (F.run X.A X.stack s H ⟨[], ks.zip ws⟩ (g [] ws) (gV [] zs) Q (E σ) hr I.env0 (hb.to s [] ws I.kIn rfl (rz.length.symm.trans l2)) r2 h) fun r s' hq => ?_)
  cases r with
  | error e => exact hx pins H s e s' I hq
  | ok fl =>
    cases fl with
    | ret u => exact I.after hq
    | next => exact False.elim hq
    | brk => exact False.elim hq
    | cont => exact False.elim hq
theorem pe_callKS (F : FnOk X.prog X.w X.K X.mg X.base CX k f fd ps sp) (hr : Room k X.A) (hg : Gl X x) (hm : X.mg x = some (.ref f)) (hk : PySem.W.keepIn X.K (.ref f) = true) (hb : KBn X.K fd ps 0 ks g gV) (hx : ∀ σ, PassesAt CX X σ (E σ))
    (hkw : PK X kws tk) (hall : (backToKw pos (keywordEach kws X.env)).all (·.1.isSome) = true := by rfl) (hks : (backToKw pos (keywordEach kws X.env)).filterMap (·.1) = ks := by rfl)
    (hdb : (x == ("__debug__" : Str)) = false := by decide) (hpl : ((backTo pos (starEach [] X.env)).any (·.1) || (backToKw pos (keywordEach kws X.env)).any (·.1.isNone)) = false := by rfl) :
    PE X (.Call (.Name x p) [] kws pos) (tCallKS ks.length sp gV E tk) := by
  constructor
  intro pins s σ H Q I h
  refine wpAny_Call_Name_kw (ld_glob I hg hm ?_ hdb)
  refine PySem.W.callWith_KW0 (h₀ := X.base) I.ok.mod.kin hk hall (thn (hkw.run pos pins s σ H _ I h) ?_) hpl
  rintro ws s2 ⟨zs, H2, I2, rz, l2, q2⟩
  refine ⟨I2.kIn, ?_⟩
  rw [hks]
  exact run_fnKS F hr hb (hx σ) I2 rz l2 q2
end
end Wk
set_option Elab.async false
set_option linter.all false
set_option maxRecDepth 100000
set_option maxHeartbeats 8000000
/-! The law's check of one row. -/
namespace LB
open PySem L2 Wk
open Bg (Bg Wo)
theorem pe_callK0 {X : Cx} {CX : CXT} {k : Nat} {f : Addr} {fd : FuncData} {ps ks : List Str} {sp : Sp} {E : XK} {x : Str} {p pos : Pos} {kws : List Keyword} {tk : TA} {g : List Value → List Value → List Value} {gV : List V → List V → List V} (F : FnOk X.prog X.w X.K X.mg X.base CX k f fd ps sp) (hr : Room k X.A) (hg : Gl X x) (hm : X.mg x = some (.ref f)) (hk : PySem.W.keepIn X.K (.ref f) = true) (hb : KBn X.K fd ps 0 ks g gV) (hx : Passes CX X E)
    (hkw : PK X kws tk) (hall : (backToKw pos (keywordEach kws X.env)).all (·.1.isSome) = true := by rfl) (hks : (backToKw pos (keywordEach kws X.env)).filterMap (·.1) = ks := by rfl)
    (hdb : (x == ("__debug__" : Str)) = false := by decide) (hpl : ((backTo pos (starEach [] X.env)).any (·.1) || (backToKw pos (keywordEach kws X.env)).any (·.1.isNone)) = false := by rfl) :
    PE X (.Call (.Name x p) [] kws pos) (tCallKS ks.length sp gV (fun _ => E) tk) :=
  pe_callKS (E := fun _ => E) F hr hg hm hk hb (fun σ pins H s e s' I h => hx pins σ H s e s' I h) hkw hall hks hdb hpl
def shtJ (ones tens : List Str) (hun : Str) (scales : List Str) : PyData := .tuple [.list (ones.map PyData.str), .list (tens.map PyData.str), .str hun, .list (scales.map PyData.str)]
theorem Tab.dpJ {K : PySem.W.Frag} {H : Hp} {t o te sc : Addr} {ones tens : List Str} {hun : Str} {scales : List Str} (T : Tab H t ones tens hun scales o te sc) : Dp K H (.ref t) (shtJ ones tens hun scales) :=
  .tup (SqT.of T.tb.at_.tup) (.cons (.lst (SqL.of T.tb.at_.lo) (wds_dp _)) (.cons (.lst (SqL.of T.tb.at_.lt) (wds_dp _)) (.cons (.str _) (.cons (.lst (SqL.of T.tb.at_.ls) (wds_dp _)) .nil))))
theorem good_len {ones tens : List Str} {hun : Str} {scales : List Str} (good : GoodRow (ones ++ (tens ++ hun :: scales))) : ∀ x ∈ ones ++ (tens ++ hun :: scales), x.length ≤ 20 ∧ ∀ c ∈ x.cps.toList, c < 128 := fun x hx => by
  have g := good.ok x hx
  refine ⟨g.2.1, fun c hc => ?_⟩
  have := (g.2.2 c hc).2
  omega
theorem Tab.shJ {H : Hp} {t o te sc : Addr} {ones tens : List Str} {hun : Str} {scales : List Str} (T : Tab H t ones tens hun scales o te sc) (l20 : scales.length ≤ 20) : Sh 2000 2 (shtJ ones tens hun scales) := by
  have l1 := T.tb.l1
  have l2 := T.tb.l2
  have ok := good_len T.good
  have a1 : ∀ x ∈ ones, x.length ≤ 20 ∧ ∀ c ∈ x.cps.toList, c < 128 := fun x hx => ok x (List.mem_append_left _ hx)
  have a2 : ∀ x ∈ tens, x.length ≤ 20 ∧ ∀ c ∈ x.cps.toList, c < 128 := fun x hx => ok x (List.mem_append_right _ (List.mem_append_left _ hx))
  have a3 := ok hun (List.mem_append_right _ (List.mem_append_right _ List.mem_cons_self))
  have a4 : ∀ x ∈ scales, x.length ≤ 20 ∧ ∀ c ∈ x.cps.toList, c < 128 := fun x hx => ok x (List.mem_append_right _ (List.mem_append_right _ (List.mem_cons_of_mem _ hx)))
  refine Sh.mono (Sh.tup (ShA.cons (Sh.list (ShA.strs a1)) (ShA.cons (Sh.list (ShA.strs a2)) (ShA.cons ((Sh.str a3.1 a3.2).mono (Nat.le_refl _) (Nat.zero_le 1)) (ShA.cons (Sh.list (ShA.strs a4)) (ShA.nil.mono (Nat.le_refl _) (Nat.zero_le 1))))))) ?_ (Nat.le_refl _)
  omega
def bothJ (ones tens : List Str) (hun : Str) (scales row : List Str) : PyData := .list [shtJ ones tens hun scales, .list (row.map PyData.str)]
theorem bothJ_sh {H : Hp} {t o te sc : Addr} {ones tens : List Str} {hun : Str} {scales : List Str} (T : Tab H t ones tens hun scales o te sc) (l20 : scales.length ≤ 20) {A : List Wo} (al : A.length ≤ 200) : Sh 6300 3 (bothJ ones tens hun scales (A.map (wd ones tens hun scales))) := by
  have ok := good_len T.good
  refine Sh.mono (Sh.list (ShA.cons (T.shJ l20) (ShA.cons ((Sh.list (ShA.strs (m := 20) (ws := A.map (wd ones tens hun scales)) fun x hx => ?_)).mono (Nat.le_refl _) (Nat.le_succ 1)) (ShA.nil.mono (Nat.le_refl _) (Nat.zero_le 2))))) ?_ (Nat.le_refl _)
  · obtain ⟨y, _, rfl⟩ := List.mem_map.mp hx
    exact ok _ (wd_mem y)
  · rw [List.length_map]
    omega
def spRight9 : Sp := fun vs H Q _ => ∃ (t r o te sc : Addr) (ones tens : List Str) (hun : Str) (scales : List Str) (A : List Wo) (c : Bg), vs = [.ref t, .ref r] ∧ Tab H t ones tens hun scales o te sc ∧ H r = some (.lst ((A.map (wd ones tens hun scales)).map V.str)) ∧
  (∀ x ∈ A, x ∈ Bg.all scales.length) ∧ A.length ≤ 200 ∧ scales.length ≤ 20 ∧ Bg.folL (Bg.start scales.length) A = some c ∧ ∀ H', Same H H' → Q (.bl true) H'
theorem ways_le : ∀ m : Nat, 0 ≤ Bg.ways m ∧ Bg.ways m ≤ Bg.W m
  | 0 => ⟨by decide, by decide⟩
  | m + 1 => by
    obtain ⟨a, b⟩ := ways_le m
    have w := Bg.W_pos m
    have e : Bg.ways (m + 1) = Bg.ways m + Bg.W m := rfl
    rw [Bg.W_succ]
    omega
theorem due_small {k : Nat} {A : List Wo} {c : Bg} (hk : k ≤ 20) (ok : Bg.Ok c) (kn : Bg.Kn k A c) : (Bg.cf (Bg.fb 0 (Bg.W (k + 1) - 1)) c).natAbs < 2 ^ 1000 := by
  have wk := Bg.W_pos (k + 1)
  have w2 : (Bg.W (k + 2)).natAbs < 2 ^ 1000 := W_small (by omega)
  have w3 : Bg.W (k + 2) = 1000 * Bg.W (k + 1) := Bg.W_succ _
  rcases kn with ⟨rfl, rfl⟩ | ⟨hm, hg, ht, hl⟩
  · have e : Bg.cf (Bg.fb 0 (Bg.W (k + 1) - 1)) Bg.zero = 1 := by
      show Bg.fb 0 (Bg.W (k + 1) - 1) (0 + Bg.W 0) - Bg.fb 0 (Bg.W (k + 1) - 1) 0 = 1
      rw [show Bg.W 0 = 1 from rfl, Bg.fb_id (by omega) (by omega), Bg.fb_id (by omega) (by omega)]
      rfl
    rw [e]
    omega
  · obtain ⟨b1, b2, b3, b4, b5, b6⟩ := ok.bnd
    have wm := Bg.W_pos c.m
    by_cases g0 : c.g = 0
    · unfold Bg.cf
      rw [if_pos g0, Bg.fb_id (by omega) (by omega), Bg.fb_id b1 (by omega)]
      omega
    · rw [Bg.cf_sum ok ht g0]
      obtain ⟨a, b⟩ := ways_le c.m
      have r0 : 0 ≤ c.r + (if c.g < 10 then (100 : Int) else 0) ∧ c.r + (if c.g < 10 then (100 : Int) else 0) ≤ 200 := by split <;> omega
      have p0 := Int.mul_nonneg r0.1 a
      have p1 := Int.mul_le_mul_of_nonneg_right r0.2 a
      omega
section
variable {P : Program} {w : World} {K : PySem.W.Frag} {mg : Str → Option Value} {base : Heap}
end
end LB
set_option Elab.async false
set_option linter.all false
set_option maxRecDepth 100000
set_option maxHeartbeats 8000000
/-! The words that follow: the law's check of one row. -/
namespace LB
open PySem L2 Wk
open Bg (Bg Wo)
theorem Sh.boolC {b : Bool} : Sh 5 0 (.bool b) := by
  cases b <;> exact ⟨rfl, rfl, by decide, by decide +kernel, by decide +kernel⟩
/-- the words that follow, and whether the row is a name, as data -/
def foD (us : List Str) (b : Bool) : PyData := .tuple [.list (us.map PyData.str), .bool b]
theorem foD_dp {K : PySem.W.Frag} {H : Hp} {T L : Addr} {us : List Str} {b : Bool} (h1 : H T = some (.tup [.ref L, .bl b])) (h2 : H L = some (.lst (us.map V.str))) : Dp K H (.ref T) (foD us b) :=
  .tup (SqT.of h1) (.cons (.lst (SqL.of h2) (wds_dp _)) (.cons (.bl _) .nil))
theorem foD_sh {us : List Str} {b : Bool} (h : ∀ x ∈ us, x.length ≤ 20 ∧ ∀ c ∈ x.cps.toList, c < 128) (l : us.length < 64) : Sh 2000 2 (foD us b) := by
  refine Sh.mono (Sh.tup (ShA.cons (Sh.list (ShA.strs h)) (ShA.cons (Sh.boolC.mono (Nat.le_refl _) (Nat.zero_le 1)) (ShA.nil.mono (Nat.le_refl _) (Nat.zero_le 1))))) ?_ (Nat.le_refl _)
  omega
theorem two_sh {us : List Str} {b : Bool} (h : ∀ x ∈ us, x.length ≤ 20 ∧ ∀ c ∈ x.cps.toList, c < 128) (l : us.length < 64) : Sh 4100 3 (.list [foD us b, foD us b]) := by
  refine Sh.mono (Sh.list (ShA.cons (foD_sh h l) (ShA.cons (foD_sh h l) (ShA.nil.mono (Nat.le_refl _) (Nat.zero_le 2))))) ?_ (Nat.le_refl _)
  omega
theorem us_one {ones tens : List Str} {hun : Str} {scales : List Str} {ws vz : List (Str × Wo)} (V : Voc ones tens hun scales ws) (V2 : Voc ones tens hun scales vz) (c : Bg) : usT ws c = usT vz c :=
  List.Perm.eq_of_pairwise (le := fun a b => WkI.ltS a b = true) (fun x y _ _ h1 h2 => by
    rw [ltS_asym h1] at h2
    cases h2) (us_asc V c) (us_asc V2 c) ((List.perm_ext_iff_of_nodup (us_nd V c) (us_nd V2 c)).mpr fun w => (us_mem V c w).trans (us_mem V2 c w).symm)
def spRt8 : Sp := fun vs H Q _ => ∃ (dd t r o te sc : Addr) (ones tens : List Str) (hun : Str) (scales : List Str) (ws : List (Str × Wo)) (A : List Wo) (c : Bg) (kvs : List (List Key × V)), vs = [.ref dd, .ref t, .ref r] ∧ Tab H t ones tens hun scales o te sc ∧ Voc ones tens hun scales ws ∧
  H r = some (.lst ((A.map (wd ones tens hun scales)).map V.str)) ∧ A.length ≤ 200 ∧ (∀ x ∈ A, x ∈ Bg.all scales.length) ∧ Bg.folL (Bg.start scales.length) A = some c ∧ scales.length ≤ 20 ∧ TreeK H dd (Sij (nmN ones tens hun scales) 1000 0) 6000 kvs ∧ ∀ H', Same H H' → Q (.bl true) H'
section
variable {P : Program} {w : World} {K : PySem.W.Frag} {mg : Str → Option Value} {base : Heap}
theorem scRt8 : FnScope ["tree", "sheet", "row", "kept", "due", "told"] ["tree", "sheet", "row"] (defScope sRight) := ⟨rfl, rfl, rfl, by decide +kernel, rfl, by decide +kernel, by decide +kernel⟩
theorem ok_rt8 {f fD fF : Addr} {fd dD dF : FuncData} {g : List Value → List Value → List Value} (F : Fun K "_law_right" "_law_right" sRight f fd) (D : Def1 P w K mg base "_law_due" 2 fD dD ["tree", "sheet", "row"] spDueT)
    (Fl : Def1 P w K mg base "following" 5 fF dF ["table", "words"] (spFlw0 K)) (kF : KBn K dF ["table", "words"] 0 ["words", "table"] g (fun _ zs => [zs.getD 1 .non, zs.getD 0 .non]))
    (mP : mg "repr" = none) (mTu : mg "tuple" = none) : FnG P w K mg base CX0 6 f fd ["tree", "sheet", "row"] spRt8 := by
  refine okG F scRt8 (fun vs H Q E h => ?_) (fun cdv AA outer s H vs Q E gd hr h => ?_)
  · obtain ⟨dd, t, r, o, te, sc, ones, tens, hun, scales, ws, A, c, kvs, rfl, _⟩ := h
    rfl
  · obtain ⟨dd, t, r, o, te, sc, ones, tens, hun, scales, ws, A, c, kvs, rfl, TB, Vc, hR, al, hA, hc, l20, TT, k⟩ := h
    have hr2 : Room 2 _ := hr.mono (by decide)
    have hr5 : Room 5 _ := hr
    refine ⟨_, pss_cons (ps_par (i := 3) (j := 4) (by rfl) scRt8.nd rfl rfl (by decide) rfl rfl (pa_cons (pe_callB (call_repr (by exact gd) hr.units) (by rfl) mP (by decide +kernel) (pa_cons (pe_lst (pa_cons (pv 1) (pa_cons (pv 2) pa_nil))) pa_nil)) (pa_cons (pe_call D.ok hr2 (by rfl) D.g D.k D.b .nil pass0 (pa_cons (pv 0) (pa_cons (pv 1) (pa_cons (pv 2) pa_nil)))) pa_nil)) (by rfl)) (pss_cons (ps_set (i := 5) scRt8.nd rfl (.inl rfl) (pe_lst (pa_cons (pe_call Fl.ok hr5 (by rfl) Fl.g Fl.k Fl.b .nil pass0 (pa_cons (pv 1) (pa_cons (pv 2) pa_nil))) (pa_cons (pe_callK0 Fl.ok hr5 (by rfl) Fl.g Fl.k kF pass0 (pk_cons (pv 2) (pk_cons (pv 1) pk_nil))) pa_nil)))) (pss_cons (ps_if (PW.pt (pw_or (pt_cmpR op_ne (pe_callB (call_repr (by exact gd) hr.units) (by rfl) mP (by decide +kernel) (pa_cons (pv 5) pa_nil)) (pe_callB (call_repr (by exact gd) hr.units) (by rfl) mP (by decide +kernel) (pa_cons (pe_op op_rep (pe_lst (pa_cons (pe_callTy call_tuple_of (by rfl) mTu (by decide +kernel) (pa_cons (pv 4) pa_nil)) pa_nil)) pe_int) pa_nil)) (nomark _)) (pw_or1 (pt_cmpR op_ne (pe_callB (call_repr (by exact gd) hr.units) (by rfl) mP (by decide +kernel) (pa_cons (pe_lst (pa_cons (pv 1) (pa_cons (pv 2) pa_nil))) pa_nil)) (pv 3) (nomark _))))) (pss_one (ps_ret pe_bl)) pss_nil) (pss_cons (ps_expr (pe_bm PySem.F.plainAttrs_list PySem.F.slot_list_append PySem.F.type_list_append mt_append (pe_ix ix_tup (pe_ix ix_list (pv 5) pe_int (fun _ _ => rfl)) pe_int (fun _ _ => rfl)) (pa_cons pe_str pa_nil))) (pss_one (ps_ret (pe_cmpR op_eq (pe_callB (call_repr (by exact gd) hr.units) (by rfl) mP (by decide +kernel) (pa_cons (pe_call Fl.ok hr5 (by rfl) Fl.g Fl.k Fl.b .nil pass0 (pa_cons (pv 1) (pa_cons (pv 2) pa_nil))) pa_nil)) (pe_callB (call_repr (by exact gd) hr.units) (by rfl) mP (by decide +kernel) (pa_cons (pe_callTy call_tuple_of (by rfl) mTu (by decide +kernel) (pa_cons (pv 4) pa_nil)) pa_nil)) (nomark _))))))), ?_⟩
    have big : 1000 < sizeLine := by decide
    have l1 := TB.tb.l1
    have l2 := TB.tb.l2
    have nd := TB.good.nd
    have hgo := goF_wd (i := 0) l1 l2 nd hA hc
    have shB := bothJ_sh TB l20 al
    have ulen : (usT ws c).length < 64 := due_len Vc (us_nd Vc c) (fun w => Iff.rfl) l20
    have uok : ∀ x ∈ usT ws c, x.length ≤ 20 ∧ ∀ c ∈ x.cps.toList, c < 128 := fun x hx => by
      obtain ⟨y, _, rfl, _⟩ := (us_mem Vc c x).mp hx
      exact good_len TB.good _ (wd_mem y)
    have same : ∀ {vz : List (Str × Wo)} {us : List Str}, Voc ones tens hun scales vz → us = (stepsOf c vz).map (·.1) → us = usT ws c := fun V2 e => e.trans (us_one V2 Vc c)
    have bA : decide (((A.map (wd ones tens hun scales)).length : Int) > 0) = decide (A ≠ []) := by
      cases A with
      | nil => rfl
      | cons x A =>
        rw [decide_eq_true (show x :: A ≠ [] by simp)]
        exact decide_eq_true (by rw [List.length_map, List.length_cons]; omega)
    -- kept, due
    refine ⟨_, rfl, _, rfl, by show 2 ≤ sizeLine; omega, fun p0 n0 => ?_⟩
    have s0 := same_new (x := .lst [.ref t, .ref r]) n0
    have T0 := TB.same s0
    dsimp only [tNil]
    refine shB.repr (by decide) (by decide) (.lst (SqL.of upd_same) (.cons T0.dpJ (.cons (.lst (SqL.of (s0 _ _ hR)) (wds_dp _)) .nil))) ?_
    refine ⟨_, rfl, _, rfl, _, rfl, dd, t, r, o, te, sc, ones, tens, hun, scales, ws, A, c, kvs, rfl, T0, Vc, s0 _ _ hR, by omega, hA, hc, l20, TT.same s0, fun R L H1 s1 hRd hLd => ⟨_, _, rfl, ?_⟩⟩
    have s01 := s0.trans s1
    have T1 := TB.same s01
    -- told
    refine ⟨_, rfl, _, rfl, t, r, o, te, sc, ones, tens, hun, scales, _, c, rfl, T1, s01 _ _ hR, hgo, fun Ta La ua va H2 s2 hTa hLa nLa Va ea _ _ _ => ?_⟩
    have e1 := same Va ea
    subst e1
    rw [bA] at hTa
    have s02 := s01.trans s2
    have T2 := TB.same s02
    refine ⟨_, rfl, _, rfl, rfl, t, r, o, te, sc, ones, tens, hun, scales, _, c, rfl, T2, s02 _ _ hR, hgo, fun Tb Lb ub vb H3 s3 hTb hLb nLb Vb eb _ _ _ => ?_⟩
    have e2 := same Vb eb
    subst e2
    rw [bA] at hTb
    have s03 := s02.trans s3
    refine ⟨by show 2 ≤ sizeLine; omega, fun TL nTL => ?_⟩
    have s4 := same_new (x := .lst [.ref Ta, .ref Tb]) nTL
    have hTL : upd H3 TL (.lst [.ref Ta, .ref Tb]) TL = some (.lst [.ref Ta, .ref Tb]) := upd_same
    generalize upd H3 TL (.lst [.ref Ta, .ref Tb]) = H4 at s4 hTL
    have s04 := s03.trans s4
    have hTa4 := s4 _ _ (s3 _ _ hTa)
    have hLa4 := s4 _ _ (s3 _ _ hLa)
    have hTb4 := s4 _ _ hTb
    have hLb4 := s4 _ _ hLb
    have s14 := (s2.trans s3).trans s4
    refine ⟨_, rfl, ?_⟩
    dsimp only [tNil]
    refine (two_sh uok ulen).repr (by decide) (by decide) (.lst (SqL.of hTL) (.cons (foD_dp hTa4 hLa4) (.cons (foD_dp hTb4 hLb4) .nil))) ?_
    refine ⟨_, rfl, R, _, rfl, .inl ⟨SqL.of (s14 _ _ hRd), fun u nu => ?_⟩⟩
    have s5 := same_new (x := .tup [.ref L, .bl (decide (A ≠ []))]) nu
    have hu : upd H4 u (.tup [.ref L, .bl (decide (A ≠ []))]) u = some (.tup [.ref L, .bl (decide (A ≠ []))]) := upd_same
    generalize upd H4 u (.tup [.ref L, .bl (decide (A ≠ []))]) = H5 at s5 hu
    refine ⟨by show 1 ≤ sizeLine; omega, fun v nv => ?_⟩
    have s6 := s5.trans (same_new (x := .lst [.ref u]) nv)
    have hv : upd H5 v (.lst [.ref u]) v = some (.lst [.ref u]) := upd_same
    have hu6 := same_new (x := .lst [.ref u]) nv _ _ hu
    generalize upd H5 v (.lst [.ref u]) = H6 at s6 hv hu6
    refine ⟨v, 2, [.ref u], rfl, rfl, hv, by decide, by decide, by show 1 * 2 ≤ sizeLine; omega, fun v2 nv2 => ?_⟩
    rw [show (List.replicate (Int.toNat 2) [V.ref u]).flatten = [V.ref u, V.ref u] from rfl]
    have s7 := s6.trans (same_new (x := .lst [.ref u, .ref u]) nv2)
    have hu7 := same_new (x := .lst [.ref u, .ref u]) nv2 _ _ hu6
    have hv2 : upd H6 v2 (.lst [.ref u, .ref u]) v2 = some (.lst [.ref u, .ref u]) := upd_same
    have s47 := s14.trans s7
    have hL7 := s47 _ _ hLd
    dsimp only [tNil]
    refine (two_sh uok ulen).repr (by decide) (by decide) (.lst (SqL.of hv2) (.cons (foD_dp hu7 hL7) (.cons (foD_dp hu7 hL7) .nil))) ?_
    refine ⟨rfl, _, rfl, iteNS rfl ?_⟩
    have s07 := s04.trans s7
    generalize upd H6 v2 (.lst [.ref u, .ref u]) = H7 at s7 s47 s07 hL7
    have T7 := TB.same s07
    refine ⟨_, rfl, _, rfl, by show 2 ≤ sizeLine; omega, fun p5 n5 => ?_⟩
    have s8 := same_new (x := .lst [.ref t, .ref r]) n5
    have s08 := s07.trans s8
    have T8 := TB.same s08
    dsimp only [tNil]
    refine shB.repr (by decide) (by decide) (.lst (SqL.of upd_same) (.cons T8.dpJ (.cons (.lst (SqL.of (s08 _ _ hR)) (wds_dp _)) .nil))) ?_
    refine ⟨_, rfl, rfl, _, rfl, iteNS rfl ?_⟩
    have s78 := s7.trans s8
    generalize upd H7 p5 (.lst [.ref t, .ref r]) = H8 at s08 s78 s8
    -- told[0][0].append
    have hTL8 := s78 _ _ hTL
    have hTa8 := s78 _ _ hTa4
    have hLa8 := s78 _ _ hLa4
    refine ⟨_, rfl, TL, _, _, _, rfl, rfl, SqL.of hTL8, (rfl : atI [V.ref Ta, V.ref Tb] 0 = some (.ref Ta)), Ta, _, _, _, rfl, rfl, SqT.of hTa8, (rfl : atI [V.ref La, V.bl (decide (A ≠ []))] 0 = some (.ref La)), .inl ⟨rfl, _, SqL.of hLa8⟩, La, _, _, rfl, rfl, hLa8, by rw [List.length_map]; omega, ?_⟩
    have keep : ∀ {q : Addr} {u : HO}, H1 q = some u → upd H8 La (.lst ((usT ws c).map V.str ++ [.str "x"])) q = some u := fun {q u} e => by
      rw [upd_ne (ne_of_none e nLa)]
      exact s78 _ _ (s14 _ _ e)
    have s09 : Same H (upd H8 La (.lst ((usT ws c).map V.str ++ [.str "x"]))) := fun q u e => keep (s01 _ _ e)
    have hR9 := keep hRd
    have hL9 := keep hLd
    generalize upd H8 La (.lst ((usT ws c).map V.str ++ [.str "x"])) = H9 at s09 hR9 hL9
    have T9 := TB.same s09
    refine ⟨_, rfl, _, rfl, t, r, o, te, sc, ones, tens, hun, scales, _, c, rfl, T9, s09 _ _ hR, hgo, fun Tc Lc uc vc H10 s10 hTc hLc _ Vd ec _ _ _ => ?_⟩
    have e3 := same Vd ec
    subst e3
    rw [bA] at hTc
    dsimp only [tNil]
    refine (foD_sh uok ulen).repr (by decide) (by decide) (foD_dp hTc hLc) ?_
    refine ⟨_, rfl, R, _, rfl, .inl ⟨SqL.of (s10 _ _ hR9), fun u2 nu2 => ?_⟩⟩
    have s11 := s10.trans (same_new (x := .tup [.ref L, .bl (decide (A ≠ []))]) nu2)
    dsimp only [tNil]
    refine (foD_sh uok ulen).repr (by decide) (by decide) (foD_dp upd_same (s11 _ _ hL9)) ?_
    refine ⟨rfl, ?_⟩
    show Q (.bl (decide _)) _
    rw [decide_eq_true rfl]
    exact k _ (s09.trans s11)
end
end LB
set_option Elab.async false
set_option linter.all false
set_option maxRecDepth 100000
set_option maxHeartbeats 4000000
/-! xs[::k] of a list, a step that is computed: some of its items. -/
namespace Wk
open PySem PySem.Spec PyProof.Rows L2
theorem pick_vals {xs : List V} {its : List Value} (r : Vals xs its) : ∀ idx : List Nat, ∃ zs, Vals zs (idx.filterMap (its.toArray[·]?)) ∧ ∀ z ∈ zs, z ∈ xs
  | [] => ⟨[], .nil, fun _ h => nomatch h⟩
  | i :: idx => by
    obtain ⟨zs, rz, hz⟩ := pick_vals r idx
    rw [List.filterMap_cons]
    cases e : its.toArray[i]? with
    | none => exact ⟨zs, rz, hz⟩
    | some u =>
      have e2 : its[i]? = some u := by simpa using e
      have il : i < xs.length := by
        have := (List.getElem?_eq_some_iff.mp e2).1
        rw [r.length]
        exact this
      have ex : xs[i]? = some (xs[i]'il) := List.getElem?_eq_getElem il
      obtain ⟨u', hu, ru⟩ := r.get ex
      rw [e2] at hu
      cases hu
      exact ⟨_ :: zs, .cons ru rz, fun z h => (List.mem_cons.mp h).elim (fun q => q ▸ List.mem_of_getElem? ex) (hz z)⟩
section
variable {X : Cx}
def tStepL (K : PySem.W.Frag) (te : TE) (ts : TO) : TE := fun σ H Q => te σ H fun x H1 => ts σ H1 fun o H2 => ∃ a xs k, x = .ref a ∧ o = some k ∧ 0 < k ∧ SqL K H2 a xs ∧ ∀ p zs, H2 p = none → (∀ z ∈ zs, z ∈ xs) → zs.length ≤ xs.length → Q (.ref p) (upd H2 p (.lst zs))
theorem pe_stepL {e : Expr} {te : TE} {st : Expr} {ts : TO} {p3 pos : Pos} (he : PE X e te) (hst : PO X (some st) ts) : PE X (.Subscript e (.Slice none none (some st) p3) pos) (tStepL X.K te ts) := by
  refine ⟨fun pins s σ H Q I h => ?_⟩
  refine Subscript_ (thn (he.run pins s σ H _ I h) fun v s1 ⟨x, H1, I1, r1, q1⟩ => ?_)
  refine wpAny_Slice (thn (po_none.run pins s1 σ H1 (fun o H2 => o = none ∧ H2 = H1) I1 ⟨rfl, rfl⟩) fun vl s2 ⟨l, H2, I2, pl, el, e2⟩ => ?_)
  subst el e2
  refine thn (po_none.run pins s2 σ H2 (fun o H3 => o = none ∧ H3 = H2) I2 ⟨rfl, rfl⟩) fun vu s3 ⟨u, H3, I3, pu, eu, e3⟩ => ?_
  subst eu e3
  refine thn (hst.run pins s3 σ H3 _ I3 q1) fun vs s4 ⟨o, H4, I4, ps, a, xs, k, ex, eo, k0, hx, q⟩ => ?_
  subst ex eo
  cases r1
  have I5 : Inv X pins σ H4 { s4 with heap := s4.heap.push { cls := .type "slice", data := .fields #[vl, vu, vs] } } := I4.kept (t' := s4.toks) fun b ob q => Heap.get?_push_of_some _ q
  obtain ⟨its, r, ht, hz⟩ := I5.list hx
  have hlen := r.length
  show wpAny (model X.prog X.w) X.A (subscriptTail e (.Slice none none (some st) p3) (.ref a) (.ref s4.heap.objs.size)) (EP X pins σ Q) X.xe { s4 with heap := s4.heap.push { cls := .type "slice", data := .fields #[vl, vu, vs] } }
  refine tail_any (ops := [.ref a, .ref s4.heap.objs.size]) ht.isList.typeIs (PySem.slot_list_getitem.lookup) ?_ (by with_unfolding_all rfl)
  have kne : some k ≠ some (0 : Int) := fun z => by
    cases z
    exact absurd k0 (by decide)
  refine wpAny_getItem_list_slice ht.isList (Heap.IsSliceOf.new _ vl vu vs) pl pu ps kne ?_ (by rw [List.size_toArray]; omega)
  have le := slicePick_size_le its.toArray none none (some k)
  obtain ⟨zs, rz, hzs⟩ := pick_vals r (sliceRange (sliceBounds none none (some k) its.toArray.size).1 (sliceBounds none none (some k) its.toArray.size).2.1 (sliceBounds none none (some k) its.toArray.size).2.2)
  have lz : zs.length ≤ xs.length := by
    have e1 := rz.length
    have e2 : (slicePick its.toArray none none (some k)).size = zs.length := by
      unfold slicePick
      rw [List.size_toArray, e1]
    rw [e2, List.size_toArray] at le
    omega
  refine ⟨.ref _, _, I5.laid (t' := s4.toks) (o := .lst zs) (fun b ob q => Heap.get?_push_of_some _ q) (Nat.le_refl _) ?_, rfl, q _ zs (I5.hok.fresh (Nat.le_refl _)) hzs lz⟩
  exact ⟨by omega, _, 0, rz, Heap.get?_push_size _ rfl⟩
end
end Wk
set_option Elab.async false
set_option linter.all false
set_option maxRecDepth 100000
set_option maxHeartbeats 8000000
/-! The words that follow: the law. -/
namespace LB
open PySem L2 Wk
open Bg (Bg Wo)
theorem paired_mem {α β : Type} {R : α → β → Prop} {xs : List α} {ys : List β} (h : Paired R xs ys) : ∀ y ∈ ys, ∃ x ∈ xs, R x y := by
  induction h with
  | nil => exact fun y hy => (nomatch hy)
  | cons r _ ih =>
    intro y hy
    rcases List.mem_cons.mp hy with rfl | hy
    · exact ⟨_, List.mem_cons_self, r⟩
    · obtain ⟨x, hx, hr⟩ := ih y hy
      exact ⟨x, List.mem_cons_of_mem _ hx, hr⟩
theorem TreeK.kp {H G : Hp} {p d : Addr} {d0 s0 c0 : Int} {S : List Str → Nat → Prop} {N : Nat} {kvs : List (List Key × V)} (T : TreeK H d S N kvs) (B : RngAt H p d0 s0 c0) (k : Kp p H G) : TreeK G d S N kvs := by
  have off : ∀ {q : Addr} {u : HO}, H q = some u → (∀ x y z : Int, u ≠ .lst [.int x, .int y, .int z]) → G q = some u := fun {q u} e n => k _ _ e fun z => by
    rw [z, B.at_] at e
    exact n _ _ _ (Option.some.inj e).symm
  refine ⟨off T.at_ fun x y z e => (nomatch e), T.len, T.keys, fun w => (T.val w).imp (fun ⟨a, nx, b, h1, ⟨l, h2, h3⟩, h4⟩ => ⟨a, nx, b, h1, ⟨l, off h2 fun x y z e => (by cases e), off h3 fun x y z e => ?_⟩, h4⟩) id⟩
  cases nx with
  | nil => cases e
  | cons n nx => cases e
theorem pick8 {r : Int} (r0 : 0 ≤ r) (r1 : r < 2) : ∃ z : Int, atI [V.int 0, V.int 20] r = some (.int z) ∧ 0 ≤ z ∧ z ≤ 20 := by
  rcases (show r = 0 ∨ r = 1 by omega) with rfl | rfl
  · exact ⟨0, rfl, by decide, by decide⟩
  · exact ⟨20, rfl, by decide, by decide⟩
section
variable {P : Program} {w : World} {K : PySem.W.Frag} {mg : Str → Option Value} {base : Heap}
theorem scLaw8 : FnScope ["script", "rng", "lap", "sheet", "tree", "top", "scale", "turn", "row", "cut"] ["script"] (defScope sLaw) := ⟨rfl, rfl, rfl, by decide +kernel, rfl, by decide +kernel, by decide +kernel⟩
theorem ok_law8 {f fR fD fS fG fSp fTr fT : Addr} {fd dR dD dS dG dSp dTr dT : FuncData} (F : Fun K "law" "law" sLaw f fd) (R : Def1 P w K mg base "_law_rng" 1 fR dR ["script"] (spRng K)) (D : Def1 P w K mg base "_law_draw" 1 fD dD ["rng", "upper"] spDraw)
    (S : Def1 P w K mg base "_law_sheet" 2 fS dS ["rng", "most"] spSheet) (Gr : Def1 P w K mg base "_law_great" 2 fG dG ["rng", "top"] spGreat) (Sp : Def1 P w K mg base "_law_spelt" 1 fSp dSp ["sheet", "number_here"] spSpelt) (Tr : Def1 P w K mg base "_law_tree" 2 fTr dTr ["sheet"] spTree)
    (GT : FnG P w K mg base CX0 6 fT dT ["tree", "sheet", "row"] spRt8) (gT : mg "_law_right" = some (.ref fT)) (kT : PySem.W.keepIn K (.ref fT) = true) (bT : Binds K dT ["tree", "sheet", "row"] [])
    (mR : mg "range" = none) (mN : mg "min" = none) (mL : mg "len" = none) (mLi : mg "list" = none) : FnG P w K mg base CX0 7 f fd ["script"] (spTrue K) := by
  refine okG F scLaw8 (fun vs H Q E h => ?_) (fun cdv A outer s H vs Q E gd hr h => ?_)
  · obtain ⟨a, ns, rfl, _⟩ := h
    rfl
  · obtain ⟨a, ns, rfl, hS, hlen, kk⟩ := h
    have hr1 : Room 1 _ := hr.mono (by decide)
    have hr2 : Room 2 _ := hr.mono (by decide)
    have hr6 : Room 6 _ := hr
    refine ⟨_, pss_cons (ps_set (i := 1) scLaw8.nd rfl (.inl rfl) (pe_call R.ok hr1 (by rfl) R.g R.k R.b .nil pass0 (pa_cons (pv 0) pa_nil))) (pss_cons (ps_for PassesOwn.never rfl (pi_range1 rfl mR (pa_cons (pe_op op_add pe_int (pe_callB (call_min2 rfl) (by rfl) mN (by decide +kernel) (pa_cons pe_int (pa_cons (pe_callB call_len_seq (by rfl) mL PySem.boot_len (pa_cons (pv 0) pa_nil)) pa_nil)))) pa_nil)) (pg_name (i := 2) scLaw8.nd rfl (.inl rfl)) (pss_cons (ps_set (i := 3) scLaw8.nd rfl (.inl rfl) (pe_call S.ok hr2 (by rfl) S.g S.k S.b .nil pass0 (pa_cons (pv 1) (pa_cons (pe_ix ix_list (pe_lst (pa_cons pe_int (pa_cons pe_int pa_nil))) (pe_call D.ok hr1 (by rfl) D.g D.k D.b .nil pass0 (pa_cons (pv 1) (pa_cons pe_int pa_nil))) (fun _ _ => rfl)) pa_nil)))) (pss_mid (ps_par (i := 4) (j := 5) (by rfl) scLaw8.nd rfl rfl (by decide) rfl rfl (pa_cons (pe_call Tr.ok hr2 (by rfl) Tr.g Tr.k Tr.b .nil pass0 (pa_cons (pv 3) pa_nil)) (pa_cons pe_int pa_nil)) (by rfl)) (pss_mid (ps_for PassesOwn.never rfl (pi_list (pe_ix ix_tup (pv 3) pe_int (fun _ _ => rfl))) (pg_name (i := 6) scLaw8.nd rfl (.inl rfl)) (pss_one (ps_set (i := 5) scLaw8.nd rfl (.inl rfl) (pe_op op_mul (pv 5) pe_int)))) (pss_mid (ps_for PassesOwn.never rfl (pi_range1 rfl mR (pa_cons pe_int pa_nil)) (pg_name (i := 7) scLaw8.nd rfl (.inl rfl)) (pss_mid (ps_set (i := 8) scLaw8.nd rfl (.inl rfl) (pe_call Sp.ok hr1 (by rfl) Sp.g Sp.k Sp.b .nil pass0 (pa_cons (pv 3) (pa_cons (pe_call Gr.ok hr2 (by rfl) Gr.g Gr.k Gr.b .nil pass0 (pa_cons (pv 1) (pa_cons (pv 5) pa_nil))) pa_nil)))) (pss_one (ps_for PassesOwn.never rfl (pi_list (pe_lst (pa_cons pe_int (pa_cons (pe_callB call_len_seq (by rfl) mL PySem.boot_len (pa_cons (pv 8) pa_nil)) (pa_cons (pe_call D.ok hr1 (by rfl) D.g D.k D.b .nil pass0 (pa_cons (pv 1) (pa_cons (pe_op op_add (pe_callB call_len_seq (by rfl) mL PySem.boot_len (pa_cons (pv 8) pa_nil)) pe_int) pa_nil))) pa_nil))))) (pg_name (i := 9) scLaw8.nd rfl (.inl rfl)) (pss_one (ps_if (pt_not (pt_val (pe_callG GT (by exact gd) hr6 (by rfl) gT kT bT .nil pass0 (pa_cons (pv 4) (pa_cons (pv 3) (pa_cons (pe_slice sl_list (pv 8) po_none (po_some (pv 9))) pa_nil)))))) (pss_one (ps_ret pe_bl)) pss_nil)))))) (pss_one (ps_if (pt_cmpR (op_eqD hr.units) (pe_ix ix_tup (pv 3) pe_int (fun _ _ => rfl)) (pe_lst pa_nil) (nomark _)) (pss_one (ps_for PassesOwn.never rfl (pi_list (pe_stepL (pe_callTy (call_list_dT rfl) (by rfl) mLi (by decide +kernel) (pa_cons (pv 4) pa_nil)) (po_some (pe_op op_add pe_int (pe_call D.ok hr1 (by rfl) D.g D.k D.b .nil pass0 (pa_cons (pv 1) (pa_cons pe_int pa_nil))))))) (pg_name (i := 8) scLaw8.nd rfl (.inl rfl)) (pss_one (ps_if (pt_not (pt_val (pe_callG GT (by exact gd) hr6 (by rfl) gT kT bT .nil pass0 (pa_cons (pv 4) (pa_cons (pv 3) (pa_cons (pe_callTy call_list_of (by rfl) mLi (by decide +kernel) (pa_cons (pv 8) pa_nil)) pa_nil)))))) (pss_one (ps_ret pe_bl)) pss_nil)))) pss_nil))))))) (pss_one (ps_ret pe_bl))), ?_⟩
    have big : 10000 < sizeLine := by decide
    refine ⟨_, rfl, a, ns, rfl, hS, hlen, fun p d0 s0 H1 np B1 s1 => ?_⟩
    have hn : ∃ m : Nat, (2 + if (((ns.map V.int).length : Nat) : Int) < 4 then (((ns.map V.int).length : Nat) : Int) else 4) = (m : Int) ∧ m ≤ 6 := by
      refine ⟨(2 + if (((ns.map V.int).length : Nat) : Int) < 4 then (((ns.map V.int).length : Nat) : Int) else 4).toNat, ?_, ?_⟩ <;> split <;> omega
    obtain ⟨m, hm, m6⟩ := hn
    refine ⟨_, rfl, a, _, rfl, .inl (s1.seq hS), _, _, rfl, _, _, rfl, rfl, (m : Int), congrArg (fun z => [V.int z]) hm, by omega, by omega, ?_⟩
    refine for_range (lo := 0) (n := ((m : Int)).toNat) (fun i σ H2 => ∃ (x2 x3 x4 x5 x6 x7 x8 x9 : Option V) (d c : Int), σ = [some (.ref a), some (.ref p), x2, x3, x4, x5, x6, x7, x8, x9] ∧ RngAt H2 p d s0 c ∧ c ≤ 2000 * (i : Int)) ⟨none, none, none, none, none, none, none, none, d0, 0, rfl, B1, by omega⟩ ?_ ?_
    · rintro i σ H2 hi ⟨x2, x3, x4, x5, x6, x7, x8, x9, d2, c2, rfl, B2, e2⟩
      have i6 : i < 6 := by omega
      have c0 := B2.c0
      -- sheet
      refine ⟨_, rfl, by show 2 ≤ sizeLine; omega, fun l nl => ?_⟩
      have Bl := B2.same (same_new (x := .lst [.int 0, .int 20]) nl)
      have lp : l ≠ p := fun z => by
        rw [z, B2.at_] at nl
        cases nl
      refine ⟨_, rfl, p, _, _, _, _, rfl, Bl, by decide, by decide, by omega, fun r d3 c3 G1 r0 r1 e3 B3 K3 => ?_⟩
      obtain ⟨most, hmost, h0, h1⟩ := pick8 r0 r1
      refine ⟨l, _, _, _, rfl, rfl, SqL.of (K3 _ _ upd_same lp), hmost, ?_⟩
      refine ⟨p, _, _, _, most, rfl, B3, h0, h1, by omega, fun t o te sc ones tens hun scales d4 c4 G4 _ _ _ _ _ _ _ TA l1 l2 l3 good B4 e4 _ => ?_⟩
      have TB : Tab G4 t ones tens hun scales o te sc := .of TA l1 l2 (by omega) good
      have l20 : scales.length ≤ 20 := by omega
      obtain ⟨ws, Vc⟩ := TB.has_voc
      -- tree
      refine ⟨fun τ G => ∃ (dd : Addr) (kvs : List (List Key × V)), τ = [some (.ref a), some (.ref p), some (.int (0 + (i : Int))), some (.ref t), some (.ref dd), some (.int 1000), x6, x7, x8, x9] ∧ Tab G t ones tens hun scales o te sc ∧ RngAt G p d4 s0 c4 ∧ TreeK G dd (Sij (nmN ones tens hun scales) 1000 0) 6000 kvs, ?_, ?_⟩
      · refine ⟨_, rfl, t, o, te, sc, ones, tens, hun, scales, rfl, TB, fun dd kvs G5 s5 T5 => ⟨_, _, rfl, ?_⟩⟩
        exact ⟨dd, kvs, rfl, TB.same s5, B4.same s5, T5⟩
      rintro τ G5 ⟨dd, kvs, rfl, TC, B5, T5⟩
      -- top
      refine ⟨fun τ G' => G5 = G' ∧ ∃ x6, τ = [some (.ref a), some (.ref p), some (.int (0 + (i : Int))), some (.ref t), some (.ref dd), some (.int (Bg.W (scales.length + 1))), x6, x7, x8, x9], ?_, ?_⟩
      · refine ⟨_, rfl, t, _, _, _, rfl, rfl, SqT.of TC.tb.at_.tup, (rfl : atI [V.ref o, V.ref te, V.str hun, V.ref sc] 3 = some (.ref sc)), sc, rfl, ⟨_, SqL.of TC.tb.at_.ls⟩, ?_⟩
        refine for_list (K := K) (a := sc) (xs := scales.map V.str) (fun j σ G' => G5 = G' ∧ ∃ x6, σ = [some (.ref a), some (.ref p), some (.int (0 + (i : Int))), some (.ref t), some (.ref dd), some (.int (Bg.W (j + 1))), x6, x7, x8, x9]) ⟨rfl, x6, rfl⟩ ?_ ?_ ?_
        · rintro j σ G' _ ⟨rfl, _⟩
          exact SqL.of TC.tb.at_.ls
        · rintro j y σ G' hj ⟨rfl, x6, rfl⟩
          refine ⟨_, rfl, _, _, rfl, rfl, .inr ⟨by decide, by decide⟩, rfl, some y, ?_⟩
          rw [Bg.W_succ (j + 1), Int.mul_comm]
          rfl
        · rintro σ G' ⟨rfl, x6, rfl⟩
          rw [List.length_map]
          exact ⟨rfl, x6, rfl⟩
      rintro τ G' ⟨rfl, y6, rfl⟩
      have wsm := W_small (j := scales.length + 1) (by omega)
      -- rows of drawn numbers
      refine ⟨fun τ G' => ∃ (x7 x8 x9 : Option V) (d c : Int), τ = [some (.ref a), some (.ref p), some (.int (0 + (i : Int))), some (.ref t), some (.ref dd), some (.int (Bg.W (scales.length + 1))), y6, x7, x8, x9] ∧ Tab G' t ones tens hun scales o te sc ∧ RngAt G' p d s0 c ∧ c ≤ c4 + 1300 ∧ TreeK G' dd (Sij (nmN ones tens hun scales) 1000 0) 6000 kvs, ?_, ?_⟩
      · refine ⟨(12 : Int), rfl, by decide, by decide, ?_⟩
        refine for_range (lo := 0) (n := (12 : Int).toNat) (fun j τ G' => ∃ (x7 x8 x9 : Option V) (d c : Int), τ = [some (.ref a), some (.ref p), some (.int (0 + (i : Int))), some (.ref t), some (.ref dd), some (.int (Bg.W (scales.length + 1))), y6, x7, x8, x9] ∧ Tab G' t ones tens hun scales o te sc ∧ RngAt G' p d s0 c ∧ c ≤ c4 + 101 * (j : Int) ∧ TreeK G' dd (Sij (nmN ones tens hun scales) 1000 0) 6000 kvs)
          ⟨x7, x8, x9, d4, c4, rfl, TC, B5, by omega, T5⟩ ?_ ?_
        · rintro j τ G' hj ⟨y7, y8, y9, d5, c5, rfl, Tb, Bb, e5, Kb⟩
          have j5 : j < 12 := hj
          refine ⟨fun τ G6 => ∃ (r : Addr) (n d c : Int), τ = [some (.ref a), some (.ref p), some (.int (0 + (i : Int))), some (.ref t), some (.ref dd), some (.int (Bg.W (scales.length + 1))), y6, some (.int (0 + (j : Int))), some (.ref r), y9] ∧ Tab G6 t ones tens hun scales o te sc ∧ RngAt G6 p d s0 c ∧ c ≤ c5 + 100 ∧
            0 ≤ n ∧ n < Bg.W (scales.length + 1) ∧ G6 r = some (.lst ((nmL ones tens hun scales n).map V.str)) ∧ TreeK G6 dd (Sij (nmN ones tens hun scales) 1000 0) 6000 kvs, ?_, ?_⟩
          · refine ⟨_, rfl, _, rfl, _, rfl, p, d5, s0, c5, scales.length, rfl, Bb, l20, by omega, fun n G6 n0 n1 hdr => ?_⟩
            obtain ⟨d6, c6, B6, e6, K6⟩ := hdr
            refine ⟨t, o, te, sc, ones, tens, hun, scales, n, rfl, Tb.kp Bb K6, n0, n1, fun r G7 nr s7 hr => ?_⟩
            exact ⟨r, n, d6, c6, rfl, (Tb.kp Bb K6).same s7, B6.same s7, by omega, n0, n1, hr, (Kb.kp Bb K6).same s7⟩
          rintro τ G6 ⟨r, n, d6, c6, rfl, T6, B6, e6, n0, n1, hr6, K6'⟩
          have nl := nm_len (ones := ones) (tens := tens) (hun := hun) (scales := scales) n
          have rp := B6.off hr6
          refine ⟨_, rfl, r, _, rfl, .inl (SqL.of hr6), _, rfl, _, rfl, r, _, rfl, .inl (SqL.of hr6), _, _, rfl, rfl, ?_⟩
          rw [List.length_map]
          obtain ⟨len, hlen'⟩ : ∃ z, z = (nmL ones tens hun scales n).length := ⟨_, rfl⟩
          rw [← hlen'] at nl ⊢
          refine ⟨p, d6, s0, c6, _, rfl, B6, by omega, by omega, by omega, fun z d7 c7 G7 z0 z1 e7 B7 K7 => ?_⟩
          have T7 := T6.kp B6 K7
          have hr7 := K7 _ _ hr6 rp
          have K7' := K6'.kp B6 K7
          refine ⟨by show 3 ≤ sizeLine; omega, fun L nL => ?_⟩
          have sL := same_new (x := .lst [.int 0, .int (len : Nat), .int z]) nL
          refine ⟨L, rfl, ⟨_, SqL.of upd_same⟩, for_list (K := K) (a := L) (xs := [0, (len : Int), z].map V.int) (fun u σ G => ∃ (y9 : Option V), σ = [some (.ref a), some (.ref p), some (.int (0 + (i : Int))), some (.ref t), some (.ref dd), some (.int (Bg.W (scales.length + 1))), y6, some (.int (0 + (j : Int))), some (.ref r), y9] ∧ Same G7 G ∧ G L = some (.lst ([0, (len : Int), z].map V.int)))
            ⟨y9, rfl, sL, upd_same⟩ (fun u σ G _ ⟨_, _, _, h⟩ => SqL.of h) ?_ ?_⟩
          · rintro u y σ G hu ⟨y9, rfl, s8, hL⟩
            obtain ⟨q, hq, rfl⟩ := int_at hu
            obtain ⟨cut, rfl⟩ : ∃ cut : Nat, q = (cut : Int) := by
              refine ⟨q.toNat, ?_⟩
              have q0 : 0 ≤ q := by
                rcases List.mem_cons.mp (List.mem_of_getElem? hq) with rfl | h
                · omega
                rcases List.mem_cons.mp h with rfl | h
                · omega
                rw [List.mem_singleton.mp h]
                exact z0
              omega
            have T8 := T7.same s8
            have hr8 := s8 _ _ hr7
            refine ⟨_, rfl, _, rfl, _, rfl, _, rfl, _, rfl, r, _, rfl, SqL.of hr8, fun q nq => ?_⟩
            have s9 := same_new (x := .lst (cutV ((nmL ones tens hun scales n).map V.str) none (some (cut : Int)))) nq
            obtain ⟨c, hc⟩ := take_path (k := scales.length) n0 n1 cut
            have hall := Bg.name_all (n := n) (k := scales.length)
            refine ⟨dd, t, q, o, te, sc, ones, tens, hun, scales, ws, (Bg.nameW n (scales.length + 1)).take cut, c, kvs, rfl, T8.same s9, Vc, ?_, ?_, fun x hx => hall x (List.mem_of_mem_take hx), hc, l20, (K7'.same s8).same s9, fun G9 s10 => ⟨true, rfl, iteF ?_⟩⟩
            · rw [upd_same, cut_toJ]
              unfold nmL
              rw [List.map_take, List.map_take]
            · rw [List.length_take]
              unfold nmL at hlen'
              rw [List.length_map] at hlen'
              omega
            · exact ⟨_, rfl, s8.trans (s9.trans s10), s10 _ _ (s9 _ _ hL)⟩
          · rintro σ G ⟨y9, rfl, s8, hL⟩
            exact ⟨_, _, _, d7, c7, rfl, T7.same s8, B7.same s8, by omega, K7'.same s8⟩
        · rintro τ G' ⟨y7, y8, y9, d5, c5, rfl, Tb, Bb, e5, Kb⟩
          have e : ((12 : Int).toNat : Int) = 12 := rfl
          exact ⟨_, _, _, d5, c5, rfl, Tb, Bb, by omega, Kb⟩
      rintro τ G6 ⟨y7, y8, y9, d5, c5, rfl, T6, B6, e5, K6⟩
      -- all beginnings
      refine ⟨_, rfl, t, _, _, _, rfl, rfl, SqT.of T6.tb.at_.tup, (rfl : atI [V.ref o, V.ref te, V.str hun, V.ref sc] 3 = some (.ref sc)), Nat.zero_le _, fun p1 n1 => ?_⟩
      have r1 := same_new (x := .lst []) n1
      have low := good_len good
      refine ⟨_, _, .lst (SqL.of (r1 _ _ T6.tb.at_.ls)) (wds_dp _), .lst (SqL.of upd_same) .nil, wds_shaped (fun x hx => (low x (List.mem_append_right _ (List.mem_append_right _ (List.mem_cons_of_mem _ hx)))).2), by decide, _, rfl, ?_⟩
      rw [wds_eqv]
      have T7 := T6.same r1
      have B7 := B6.same r1
      have K7 := K6.same r1
      generalize upd G6 p1 (.lst []) = G7 at T7 B7 K7
      refine ite2 (fun cs => ?_) (fun cs => ⟨_, _, _, _, _, _, _, _, d5, c5, rfl, B7, by omega⟩)
      refine ⟨_, rfl, dd, kvs, rfl, .inl K7.at_, fun q bs nq hbs => ?_⟩
      have r2 := same_new (x := .lst (bs.map V.ref)) nq
      have hq : upd G7 q (.lst (bs.map V.ref)) q = some (.lst (bs.map V.ref)) := upd_same
      have T8 := T7.same r2
      have B8 := B7.same r2
      have K8 := K7.same r2
      have qp : q ≠ p := fun z => by
        rw [z, B7.at_] at nq
        cases nq
      have tup8 : ∀ b ∈ bs, ∃ ks : List Str, (∃ rr cc, Sij (nmN ones tens hun scales) 1000 0 rr cc ∧ rr.take cc = ks) ∧ upd G7 q (.lst (bs.map V.ref)) b = some (.tup (ks.map V.str)) := fun b hb => by
        obtain ⟨x, hx, hr⟩ := paired_mem hbs b hb
        obtain ⟨ks, rr, cc, z1, z2, z3⟩ := K7.keys x hx
        rw [z1, KS_kV] at hr
        exact ⟨ks, ⟨rr, cc, z2, z3⟩, r2 _ _ hr⟩
      generalize upd G7 q (.lst (bs.map V.ref)) = G8 at hq T8 B8 K8 tup8
      refine ⟨_, rfl, p, d5, s0, c5, _, rfl, B8, by decide, by decide, by omega, fun z d6 c6 G9 z0 z1 e6 B9 K9 => ⟨_, _, rfl, rfl, _, rfl, ?_⟩⟩
      have T9 := T8.kp B8 K9
      have K9' := K8.kp B8 K9
      have tup9 : ∀ b ∈ bs, ∃ ks : List Str, (∃ rr cc, Sij (nmN ones tens hun scales) 1000 0 rr cc ∧ rr.take cc = ks) ∧ G9 b = some (.tup (ks.map V.str)) := fun b hb => by
        obtain ⟨ks, h1, h2⟩ := tup8 b hb
        exact ⟨ks, h1, K9 _ _ h2 fun y => by
          rw [y, B8.at_] at h2
          cases h2⟩
      refine ⟨q, _, _, rfl, rfl, by omega, SqL.of (K9 _ _ hq qp), fun q2 zs nq2 hzs lz => ?_⟩
      have r3 := same_new (x := .lst zs) nq2
      refine ⟨q2, rfl, ⟨_, SqL.of upd_same⟩, for_list (K := K) (a := q2) (xs := zs) (fun u σ G => ∃ (y8 : Option V), σ = [some (.ref a), some (.ref p), some (.int (0 + (i : Int))), some (.ref t), some (.ref dd), some (.int (Bg.W (scales.length + 1))), y6, y7, y8, y9] ∧ Same G9 G ∧ G q2 = some (.lst zs)) ⟨y8, rfl, r3, upd_same⟩ (fun u σ G _ ⟨_, _, _, h⟩ => SqL.of h) ?_ ?_⟩
      · rintro u y σ G hu ⟨y8, rfl, s8, hq2⟩
        obtain ⟨b, hb, rfl⟩ := List.mem_map.mp (hzs y (List.mem_of_getElem? hu))
        obtain ⟨ks, ⟨rr, cc, z2, z3⟩, hb9⟩ := tup9 b hb
        obtain ⟨n, hn1, rfl, _⟩ := (Sij_all rr cc).mp z2
        refine ⟨_, rfl, _, rfl, _, rfl, b, _, rfl, .inr (SqT.of (s8 _ _ hb9)), fun v nv => ?_⟩
        have s9 := same_new (x := .lst (ks.map V.str)) nv
        have n1 : (n : Int) < Bg.W (scales.length + 1) := by
          have := W_thou scales.length
          omega
        obtain ⟨c, hc⟩ := take_path (k := scales.length) (n := (n : Int)) (by omega) n1 cc
        have hall := Bg.name_all (n := (n : Int)) (k := scales.length)
        refine ⟨dd, t, v, o, te, sc, ones, tens, hun, scales, ws, (Bg.nameW (n : Int) (scales.length + 1)).take cc, c, kvs, rfl, (T9.same s8).same s9, Vc, ?_, ?_, fun x hx => hall x (List.mem_of_mem_take hx), hc, l20, (K9'.same s8).same s9, fun G10 s10 => ⟨true, rfl, iteF ?_⟩⟩
        · rw [upd_same, ← z3]
          unfold nmN nmL
          rw [List.map_take, List.map_take, List.map_take]
        · have := Bg.name_len (n := (n : Int)) (k := scales.length) (by omega) (by omega)
          rw [List.length_take]
          omega
        · exact ⟨_, rfl, s8.trans (s9.trans s10), s10 _ _ (s9 _ _ hq2)⟩
      · rintro σ G ⟨y8, rfl, s8, hq2⟩
        exact ⟨_, _, _, _, _, _, _, _, d6, c6, rfl, B9.same s8, by omega⟩
    · rintro σ H2 _
      exact kk _
end
end LB
set_option Elab.async false
set_option linter.all false
set_option maxRecDepth 100000
set_option maxHeartbeats 8000000
/-! What the top has written: tuples of texts, defs with a default. -/
namespace LB
open PySem L2 Wk
def isStrV : Value → Bool
  | .str _ _ => true
  | _ => false
theorem strs_vals : ∀ {l : List Value}, l.all isStrV = true → ∃ xs, xs.length = l.length ∧ Vals xs l
  | [], _ => ⟨[], rfl, .nil⟩
  | v :: l, h => by
    rw [List.all_cons, Bool.and_eq_true] at h
    obtain ⟨xs, e, r⟩ := strs_vals h.2
    cases v with
    | str x t => exact ⟨.str x :: xs, congrArg Nat.succ e, .cons ⟨t, rfl⟩ r⟩
    | _ => cases h.1
/-- a tuple of texts at the top -/
def TupAt (K : PySem.W.Frag) (x : Str) (n : Nat) (E : Addr) : Prop := PySem.W.nsIn K mainGlobals x = some (some (.ref E)) ∧ ∃ (o : Obj) (its : Array Value) (m : Nat), K.lookup E = some o ∧ o.cls = .type "tuple" ∧ o.data = .seq its m ∧ its.size = n ∧ its.toList.all isStrV = true
theorem tup_at {K : PySem.W.Frag} {x : Str} {n : Nat} {E : Addr} {o : Obj} {its : Array Value} {m : Nat} (a : PySem.W.nsIn K mainGlobals x = some (some (.ref E))) (l : K.lookup E = some o) (c : o.cls = .type "tuple") (d : o.data = .seq its m) (s : its.size = n)
    (f : its.toList.all isStrV = true) : TupAt K x n E := ⟨a, o, its, m, l, c, d, s, f⟩
theorem TupAt.seq {K : PySem.W.Frag} {x : Str} {n : Nat} {E : Addr} (h : TupAt K x n E) (hn : n ≤ 1000) : ∃ xs : List V, xs.length = n ∧ ∀ H, SqT K H E xs := by
  obtain ⟨_, o, its, m, l, c, d, s, f⟩ := h
  obtain ⟨xs, e, r⟩ := strs_vals f
  have big : 1000 ≤ sizeLine := by decide
  refine ⟨xs, e.trans (by rw [Array.length_toList, s]), fun H => .inr ⟨o, its, m, l, c, d, by omega, r⟩⟩
theorem defD_at {K : PySem.W.Frag} {x : Str} {st : Stmt} {f T : Addr} {oc : Value} {od : Option Addr} {kV doc pm : Value} {an : Option Addr} {cdv ct : Value} {osl : Array (Option Value)} {oT : Obj} {n : Nat} (a : PySem.W.nsIn K mainGlobals x = some (some (.ref f)))
    (l : K.lookup f = some ⟨oc, od, .func (PySem.W.fnOf x x (defArgs st) (defBody st) (defScope st) (.ref T) kV doc pm an cdv ct), osl⟩) (c : PySem.W.codeIn K cdv x = true) (lT : K.lookup T = some oT) (dT : oT.data = .seq #[.none] n) (k : PySem.W.keepIn K (.ref f) = true) : DefD K x st f :=
  ⟨a, ⟨_, _, _, _, _, _, _, _, _, _, l, c, _, _, lT, dT⟩, k⟩
end LB
set_option Elab.async false
set_option linter.all false
set_option maxRecDepth 100000
set_option maxHeartbeats 8000000
/-! From what the top has written: valid tables, draws, the end of a law. -/
namespace LB
open PySem L2 Wk
open Bg (Bg Wo)
/-- the source of draws and its tables -/
structure PR (K : PySem.W.Frag) (fR fD f2 fS : Addr) : Prop where
  aR : DefAt K "_law_rng" sRng fR
  aD : DefAt K "_law_draw" sDraw fD
  a2 : DefAt K "_law_twice" sTwice f2
  aS : DefAt K "_law_sheet" sSheet fS
  zR : PySem.W.nsIn K mainGlobals "range" = some none
  zL : PySem.W.nsIn K mainGlobals "len" = some none
  zA : PySem.W.nsIn K mainGlobals "abs" = some none
theorem PR.draws {P : Program} {w : World} {K : PySem.W.Frag} {mg : Str → Option Value} {base h : Heap} {fR fD f2 fS : Addr} (p : PR K fR fD f2 fS) (X : K.In h) (G : h.Ns mainGlobals mg) :
    (∃ fd, Def1 P w K mg base "_law_rng" 1 fR fd ["script"] (spRng K)) ∧ (∃ fd, Def1 P w K mg base "_law_draw" 1 fD fd ["rng", "upper"] spDraw) ∧ ∃ fd, Def1 P w K mg base "_law_sheet" 2 fS fd ["rng", "most"] spSheet := by
  have no : ∀ {x : Str}, PySem.W.nsIn K mainGlobals x = some none → mg x = none := fun z => PySem.W.mg_none_of X G z
  obtain ⟨dD, DD⟩ := def1_mk (P := P) (w := w) (base := base) (ps := ["rng", "upper"]) X G p.aD (fun _ _ _ _ _ _ us hl => match us, hl with | [_, _], _ => rfl) fun fd F => ok_draw F
  obtain ⟨d2, D2⟩ := def1_mk (P := P) (w := w) (base := base) (ps := ["words_here"]) X G p.a2 (fun _ _ _ _ _ _ us hl => match us, hl with | [_], _ => rfl) fun fd F => ok_twice F
  exact ⟨def1_mk (P := P) (w := w) (base := base) (ps := ["script"]) X G p.aR (fun _ _ _ _ _ _ us hl => match us, hl with | [_], _ => rfl) fun fd F => ok_rng F (no p.zA), ⟨dD, DD⟩,
    def1_mk (P := P) (w := w) (base := base) (ps := ["rng", "most"]) X G p.aS (fun _ _ _ _ _ _ us hl => match us, hl with | [_, _], _ => rfl) fun fd F => ok_sheet F DD.ok DD.g DD.k DD.b D2.ok D2.g D2.k D2.b (no p.zR) (no p.zL)⟩
theorem walkT {kk : Nat} {l : PySem.W.OpenLaw} {q : Program} {loose : List Str} {XP : (Str → Option Value) → Heap → Prop} {YP : World → Heap → Prop} {d : DefRec} {K : Params → PySem.W.Frag} (hn : l.most = some 63) (hdf : d.params.defaults = []) (hr : Room kk PySem.callerA)
    (hY : ∀ (w : World) (h : Heap), YP w h → (K w.params).In h)
    (F : ∀ (w : World) (mg : Str → Option Value) (fa : Addr) (h : Heap), (K w.params).In h → h.Ns mainGlobals mg → mg d.name = some (.ref fa) →
      ∃ fd : FuncData, (∀ (s : Shared) (u : Value), BindsTo s fd ⟨[u], []⟩ [("script", u)]) ∧ ∀ base : Heap, (K w.params).In base → base.Ns mainGlobals mg → FnG l.prog w (K w.params) mg base CX0 kk fa fd ["script"] (spTrue (K w.params))) :
    PySem.W.WalkO q loose XP YP l.row.toRowW d [] (fun f vs => PySem.call f vs) :=
  walkG (n := 63) (k := kk) (x := "script") (CX := fun _ => CX0) (sp := fun w => spTrue (K w.params)) hn (by decide) hdf hr hY F (fun _ _ a ns hl _ hS => ⟨a, ns, rfl, hS, hl, fun _ => rfl⟩) fun _ _ _ _ _ z => z
end LB
set_option Elab.async false
set_option linter.all false
set_option maxRecDepth 100000
set_option maxHeartbeats 8000000
/-! k08: from what the top has written to the law. -/
namespace LB
open PySem L2 Wk
open Bg (Bg Wo)
theorem kb2 {K : PySem.W.Frag} {x : Str} {st : Stmt} {f : Addr} {fd : FuncData} {a b : Str} (F : Fun K x x st f fd)
    (hk : ∀ (kV doc pm : Value) (an : Option Addr) (cdv ct : Value) (u v : Value), bindArgs (PySem.W.fnOf x x (defArgs st) (defBody st) (defScope st) .none kV doc pm an cdv ct) ⟨[], [(b, u), (a, v)]⟩ = pure [(a, v), (b, u)]) :
    KBn K fd [a, b] 0 [b, a] (fun _ ws => [ws.getD 1 .none, ws.getD 0 .none]) (fun _ zs => [zs.getD 1 .non, zs.getD 0 .non]) := by
  obtain ⟨oc, od, kV, doc, pm, an, cdv, ct, osl, rfl, lk, hcd⟩ := F.ex
  refine ⟨fun s us ws X e1 e2 => ?_, fun {vs us zs ws} r1 r2 => ?_⟩
  · match us, ws, e1, e2 with
    | [], [u, v], _, _ => exact .of_eq (hk kV doc pm an cdv ct u v)
  · have at_ : ∀ j, RelV (zs.getD j .non) (ws.getD j .none) := by
      intro j
      induction r2 generalizing j with
      | nil => rfl
      | cons h _ ih =>
        cases j with
        | zero => exact h
        | succ j => exact ih j
    exact .cons (at_ 1) (.cons (at_ 0) .nil)

theorem all_mk {l : PySem.W.OpenLaw} {w : World} {K : PySem.W.Frag} {h : Heap} {mg : Str → Option Value} {fa fL iW iC E1 E2 kA1 kA2 kA3 kA4 kA5 kA6 kA7 kZ jR jD j2 jS kFb kRd kFl kSp kGr kTr kDu kRt : Addr} {tk : Tok} (X : K.In h) (G : h.Ns mainGlobals mg) (hfa : mg "law" = some (.ref fa))
    (aL : DefAt K "law" sLaw fL) (aW : DefAt K "is_word" sIsWord iW) (aC : DefAt K "check_table" sCheck iC) (t1 : TupAt K "ENGLISH_ONES" 20 E1) (t2 : TupAt K "ENGLISH_TENS" 8 E2) (tL : PySem.W.nsIn K mainGlobals "LONGEST_WORD" = some (some (.int 20 tk)))
    (aA1 : DefAt K "top_of" sTopOf kA1) (aA2 : DefAt K "worths" sWorths kA2) (aA3 : DefAt K "vocabulary" sVocab kA3) (aA4 : DefAt K "start" sStart kA4) (aA5 : DefAt K "followed" sFollowed kA5) (aA6 : DefAt K "steps" sSteps kA6) (aA7 : DefAt K "_has_words" sHas kA7) (aZ : ZeroAt K kZ) (zE : PySem.W.nsIn K mainGlobals "enumerate" = some none) (zS : PySem.W.nsIn K mainGlobals "sorted" = some none) (zN : PySem.W.nsIn K mainGlobals "min" = some none) (pR : PR K jR jD j2 jS) (aFb : DefAt K "_followed_by" sFollowedBy kFb) (aRd : DefAt K "_read" sRead kRd) (aFl : DefAt K "following" sFollowing kFl)
    (aTr : DefAt K "_law_tree" sTree kTr) (aSp : DefAt K "_law_spelt" sSpelt kSp) (aGr : DefAt K "_law_great" sGreat kGr) (aDu : DefAt K "_law_due" sDue kDu) (aRt : DefAt K "_law_right" sRight kRt)
    (zP : PySem.W.nsIn K mainGlobals "repr" = some none) (zI : PySem.W.nsIn K mainGlobals "int" = some none) (zLi : PySem.W.nsIn K mainGlobals "list" = some none) (zTu : PySem.W.nsIn K mainGlobals "tuple" = some none) :
    ∃ fd : FuncData, (∀ (s : Shared) (v : Value), BindsTo s fd ⟨[v], []⟩ [("script", v)]) ∧ ∀ base : Heap, K.In base → base.Ns mainGlobals mg → FnG l.prog w K mg base CX0 7 fa fd ["script"] (spTrue K) := by
  obtain ⟨nL, ⟨_, _, kV, doc, pm, an, cdv, ct, _, lL, cL⟩, kL⟩ := aL
  cases hfa.symm.trans (PySem.W.mg_of X G nL)
  have FL := fun_mk (st := sLaw) lL cL kL
  obtain ⟨nFl, ⟨_, _, _, _, _, _, _, _, _, lFl, ccFl⟩, kFl'⟩ := aFl
  have FFl := fun_mk (st := sFollowing) lFl ccFl kFl'
  obtain ⟨nRt, ⟨_, _, _, _, _, _, _, _, _, lRt, ccRt⟩, kRt'⟩ := aRt
  have FRt := fun_mk (st := sRight) lRt ccRt kRt'
  have no : ∀ {x : Str}, PySem.W.nsIn K mainGlobals x = some none → mg x = none := fun z => PySem.W.mg_none_of X G z
  have at_ : ∀ {x : Str} {v : Value}, PySem.W.nsIn K mainGlobals x = some (some v) → mg x = some v := fun z => PySem.W.mg_of X G z
  have TP : TxtP K mg E1 E2 := ⟨no pR.zL, ⟨tk, at_ tL⟩, at_ t1.1, at_ t2.1, t1.seq (by decide), t2.seq (by decide)⟩
  refine ⟨PySem.W.fnOf "law" "law" (defArgs sLaw) (defBody sLaw) (defScope sLaw) .none kV doc pm an cdv ct, fun s v => .of_eq rfl, fun base _ _ => ?_⟩
  obtain ⟨⟨dR, DR⟩, ⟨dD, DD⟩, ⟨dS, DS⟩⟩ := pR.draws (P := l.prog) (w := w) (base := base) X G
  obtain ⟨dTo, DTo⟩ := def1_mk (P := l.prog) (w := w) (base := base) (ps := ["table"]) X G aA1 (fun _ _ _ _ _ _ us hl => match us, hl with | [_], _ => rfl) fun fd F => ok_topOf F
  obtain ⟨dWo, DWo⟩ := def1_mk (P := l.prog) (w := w) (base := base) (ps := ["table"]) X G aA2 (fun _ _ _ _ _ _ us hl => match us, hl with | [_], _ => rfl) fun fd F => ok_worths F (no zE)
  obtain ⟨dV, DV⟩ := def1_mk (P := l.prog) (w := w) (base := base) (ps := ["table"]) X G aA3 (fun _ _ _ _ _ _ us hl => match us, hl with | [_], _ => rfl) fun fd F => ok_vocab F DWo (no zS)
  obtain ⟨dSt, DSt⟩ := def1_mk (P := l.prog) (w := w) (base := base) (ps := ["table"]) X G aA4 (fun _ _ _ _ _ _ us hl => match us, hl with | [_], _ => rfl) fun fd F => ok_start F DTo
  obtain ⟨dHa, DHa⟩ := def1_mk (P := l.prog) (w := w) (base := base) (ps := ["beginning"]) X G aA7 (fun _ _ _ _ _ _ us hl => match us, hl with | [_], _ => rfl) fun fd F => ok_has F
  obtain ⟨dF, DF⟩ := def1_mk (P := l.prog) (w := w) (base := base) (ps := ["beginning", "worth"]) X G aA5 (fun _ _ _ _ _ _ us hl => match us, hl with | [_, _], _ => rfl) fun fd F => ok_followed F DHa (PySem.W.mg_of X G aZ.1) aZ.tup
  obtain ⟨dStp, DStp⟩ := def1_mk (P := l.prog) (w := w) (base := base) (ps := ["beginning", "words"]) X G aA6 (fun _ _ _ _ _ _ us hl => match us, hl with | [_, _], _ => rfl) fun fd F => ok_steps F DF
  obtain ⟨dW, DW⟩ := def1_mk (P := l.prog) (w := w) (base := base) (ps := ["text"]) X G aW (fun _ _ _ _ _ _ us hl => match us, hl with | [_], _ => rfl) fun fd F => ok_isWord F TP
  obtain ⟨dC, DC⟩ := def1_mk (P := l.prog) (w := w) (base := base) (ps := ["table"]) X G aC (fun _ _ _ _ _ _ us hl => match us, hl with | [_], _ => rfl) fun fd F => ok_check F TP DW.ok DW.g DW.k DW.b
  obtain ⟨dFb, DFb⟩ := def1_mk (P := l.prog) (w := w) (base := base) (ps := ["beginning", "word", "meanings"]) X G aFb (fun _ _ _ _ _ _ us hl => match us, hl with | [_, _, _], _ => rfl) fun fd F => ok_folBy F DF
  obtain ⟨dRd, DRd⟩ := def1_mk (P := l.prog) (w := w) (base := base) (ps := ["table", "words"]) X G aRd (fun _ _ _ _ _ _ us hl => match us, hl with | [_, _], _ => rfl) fun fd F => ok_read0 F DC DSt DWo DFb (no zE)
  have DFl : Def1 l.prog w K mg base "following" 5 kFl _ ["table", "words"] (spFlw0 K) := ⟨ok_flw0 FFl DRd DV DStp (no pR.zL), at_ nFl, kFl', (FFl.binds (ps := ["table", "words"]) fun _ _ _ _ _ _ us hl => match us, hl with | [_, _], _ => rfl)⟩
  have k1 := kb2 (x := "following") (st := sFollowing) (a := "table") (b := "words") FFl fun _ _ _ _ _ _ _ _ => rfl
  obtain ⟨dSp, DSp⟩ := def1_mk (P := l.prog) (w := w) (base := base) (ps := ["sheet", "number_here"]) X G aSp (fun _ _ _ _ _ _ us hl => match us, hl with | [_, _], _ => rfl) fun fd F => ok_spelt F
  obtain ⟨dGr, DGr⟩ := def1_mk (P := l.prog) (w := w) (base := base) (ps := ["rng", "top"]) X G aGr (fun _ _ _ _ _ _ us hl => match us, hl with | [_, _], _ => rfl) fun fd F => ok_great F DD (no zN) (no zI)
  obtain ⟨dTr, DTr⟩ := def1_mk (P := l.prog) (w := w) (base := base) (ps := ["sheet"]) X G aTr (fun _ _ _ _ _ _ us hl => match us, hl with | [_], _ => rfl) fun fd F => ok_tree F DSp (no pR.zL) (no pR.zR) (no zTu)
  obtain ⟨dDu, DDu⟩ := def1_mk (P := l.prog) (w := w) (base := base) (ps := ["tree", "sheet", "row"]) X G aDu (fun _ _ _ _ _ _ us hl => match us, hl with | [_, _, _], _ => rfl) fun fd F => ok_dueT F (no zE) (no zTu) (no zS)
  have GT := ok_rt8 (P := l.prog) (w := w) (base := base) FRt DDu DFl k1 (no zP) (no zTu)
  exact ok_law8 FL DR DD DS DGr DSp DTr GT (at_ nRt) kRt' (FRt.binds (ps := ["tree", "sheet", "row"]) fun _ _ _ _ _ _ us hl => match us, hl with | [_, _, _], _ => rfl) (no pR.zR) (no zN) (no pR.zL) (no zLi)
end LB
set_option Elab.async false
open PySem PySem.W PyProof.Rows
set_option maxRecDepth 100000 in
set_option maxHeartbeats 0 in
theorem PySem.Challenge.cw_wordorder_k08_words_that_follow_holds : PySem.Challenge.rw_wordorder_k08_words_that_follow.Holds := by
  w_on; o_law; k_head; (case hw => w_witness2)
  k_fill
  refine LB.walkT (kk := 7) (l := PySem.Challenge.rw_wordorder_k08_words_that_follow) rfl rfl ⟨rfl, by decide, by decide⟩ (fun w h Y => PySem.W.kIn_of Y) ?F
  case F =>
    intro w mg fa h KX G hmg
    refine' LB.all_mk KX G hmg ?aL ?aW ?aC ?t1 ?t2 ?tL ?aA1 ?aA2 ?aA3 ?aA4 ?aA5 ?aA6 ?aA7 ?aZ ?zE ?zS ?zN ?pR ?aFb ?aRd ?aFl ?aTr ?aSp ?aGr ?aDu ?aRt ?zP ?zI ?zLi ?zTu
    case aL => refine' Wk.def_at ?a ?l ?c ?k; (case a => k_is); (case l => k_is); (case c => k_is); (case k => k_is)
    case aW => refine' Wk.def_at ?a ?l ?c ?k; (case a => k_is); (case l => k_is); (case c => k_is); (case k => k_is)
    case aC => refine' Wk.def_at ?a ?l ?c ?k; (case a => k_is); (case l => k_is); (case c => k_is); (case k => k_is)
    case aA1 => refine' Wk.def_at ?a ?l ?c ?k; (case a => k_is); (case l => k_is); (case c => k_is); (case k => k_is)
    case aA2 => refine' Wk.def_at ?a ?l ?c ?k; (case a => k_is); (case l => k_is); (case c => k_is); (case k => k_is)
    case aA3 => refine' Wk.def_at ?a ?l ?c ?k; (case a => k_is); (case l => k_is); (case c => k_is); (case k => k_is)
    case aA4 => refine' Wk.def_at ?a ?l ?c ?k; (case a => k_is); (case l => k_is); (case c => k_is); (case k => k_is)
    case aA5 => refine' Wk.def_at ?a ?l ?c ?k; (case a => k_is); (case l => k_is); (case c => k_is); (case k => k_is)
    case aA6 => refine' Wk.def_at ?a ?l ?c ?k; (case a => k_is); (case l => k_is); (case c => k_is); (case k => k_is)
    case aA7 => refine' Wk.def_at ?a ?l ?c ?k; (case a => k_is); (case l => k_is); (case c => k_is); (case k => k_is)
    case aFb => refine' Wk.def_at ?a ?l ?c ?k; (case a => k_is); (case l => k_is); (case c => k_is); (case k => k_is)
    case aRd => refine' Wk.def_at ?a ?l ?c ?k; (case a => k_is); (case l => k_is); (case c => k_is); (case k => k_is)
    case aFl => refine' Wk.def_at ?a ?l ?c ?k; (case a => k_is); (case l => k_is); (case c => k_is); (case k => k_is)
    case aTr => refine' Wk.def_at ?a ?l ?c ?k; (case a => k_is); (case l => k_is); (case c => k_is); (case k => k_is)
    case aSp => refine' Wk.def_at ?a ?l ?c ?k; (case a => k_is); (case l => k_is); (case c => k_is); (case k => k_is)
    case aGr => refine' Wk.def_at ?a ?l ?c ?k; (case a => k_is); (case l => k_is); (case c => k_is); (case k => k_is)
    case aDu => refine' Wk.def_at ?a ?l ?c ?k; (case a => k_is); (case l => k_is); (case c => k_is); (case k => k_is)
    case aRt => refine' Wk.def_at ?a ?l ?c ?k; (case a => k_is); (case l => k_is); (case c => k_is); (case k => k_is)
    case aZ => refine' LB.zero_at ?n ?l ?c ?d; (case n => k_is); (case l => k_is); (case c => rfl); (case d => rfl)
    case t1 => refine' LB.tup_at ?a ?l ?c ?d ?s ?f; (case a => k_is); (case l => k_is); (case c => rfl); (case d => rfl); (case s => rfl); (case f => rfl)
    case t2 => refine' LB.tup_at ?a ?l ?c ?d ?s ?f; (case a => k_is); (case l => k_is); (case c => rfl); (case d => rfl); (case s => rfl); (case f => rfl)
    case tL => k_is
    case pR =>
      refine' ⟨?pR_aR, ?pR_aD, ?pR_a2, ?pR_aS, ?pR_zR, ?pR_zL, ?pR_zA⟩
      case pR_aR => refine' Wk.def_at ?a ?l ?c ?k; (case a => k_is); (case l => k_is); (case c => k_is); (case k => k_is)
      case pR_aD => refine' Wk.def_at ?a ?l ?c ?k; (case a => k_is); (case l => k_is); (case c => k_is); (case k => k_is)
      case pR_a2 => refine' Wk.def_at ?a ?l ?c ?k; (case a => k_is); (case l => k_is); (case c => k_is); (case k => k_is)
      case pR_aS => refine' Wk.def_at ?a ?l ?c ?k; (case a => k_is); (case l => k_is); (case c => k_is); (case k => k_is)
      case pR_zR => k_is
      case pR_zL => k_is
      case pR_zA => k_is
    case zE => k_is
    case zS => k_is
    case zN => k_is
    case zP => k_is
    case zI => k_is
    case zLi => k_is
    case zTu => k_is
