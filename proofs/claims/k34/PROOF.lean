import PyProof.Rows.All
import Wide.All
import OpenK.AllK
import Wide.FinOn
import PyProof.EqAt
import PyProof.EqKinds
import PyProof.TupleCall
import KE.KExcIs
import HandS.ForMost
import HandS.ForExc
import HandS.ExcInit
import HandS.ExcValue
import HandS.ExcField
import HandS.IsInst
import HandS.Defaults
import HandS.Wide
import HandS.StrMore
import HandS.MapJoin
import HandS.Text
import HandS.Star
import HandS.Walk
import HandS.SortOrd
import HandS.SortRule
import HandS.DictTup
import HandS.SetTxt0
import HandS.Set
import HandS.SetFor
import HandS.Strs
import HandS.SortInts
import PyProof.Rows.SortShellAny
import HandS.List
import HandS.WideBits
import HandS.Style
import KE.OsArith
import HandS.RevRange
import HandS.Conv
import HandS.TryOnly
import HandS.CallSlots
import PySem.Challenge.RW_wordorder_k34_patterns_matched
set_option Elab.async false
set_option linter.all false
set_option maxRecDepth 100000
set_option maxHeartbeats 4000000
/-! A layer of our own over the hand layer: defs that call repr (no repr under way: FnG), repr of data, exceptions with an own __init__ as values. -/
namespace Wk
open PySem PySem.Spec PyProof.Rows L2

/-! ### defs under which no repr is under way -/
/-- the promise of a def, asked only where no repr is under way -/
structure FnG (P : Program) (w : World) (K : PySem.W.Frag) (mg : Str → Option Value) (base : Heap) (CX : CXT)
    (k : Nat) (f : Addr) (fd : FuncData) (ps : List Str) (sp : Sp) : Prop where
  args : ∀ vs H Q E, sp vs H Q E → vs.length = ps.length
  go : ∀ (A : Around) (out : List Env) (s : Shared) (H : Hp) (ar : Args) (us : List Value) (vs : List V) (Q : VK) (E : XK),
    A.guards = some [] → Room k A → Env0 P w K mg base A out s H → BindsTo s fd ar (ps.zip us) → Vals vs us →
    sp vs H Q E → codeAny (model P w) A (.call (.ref f) ar) (CR CX out P w H s Q E) s

section
variable {P : Program} {w : World} {K : PySem.W.Frag} {mg : Str → Option Value} {base : Heap} {CX : CXT}
variable {k : Nat} {f : Addr} {fd : FuncData} {ps : List Str} {sp : Sp}

theorem FnG.of (F : FnOk P w K mg base CX k f fd ps sp) : FnG P w K mg base CX k f fd ps sp :=
  ⟨F.len, fun A out s H ar us vs Q E _ r e b v q => F.run A out s H ar us vs Q E r e b v q⟩

/-- a def by its body -/
theorem fnG_of {name qual : Str} {params : Arguments} {body : List Stmt} {scope : Scope} {dV kV doc pm cdv ct oc : Value} {an od : Option Addr}
    {osl : Array (Option Value)} {N : List Str}
    (lk : K.lookup f = some ⟨oc, od, .func (PySem.W.fnOf name qual params body scope dV kV doc pm an cdv ct), osl⟩)
    (code : PySem.W.codeIn K cdv qual = true) (S : FnScope N ps scope) (args : ∀ vs H Q E, sp vs H Q E → vs.length = ps.length)
    (hb : ∀ (A : Around) (out : List Env) (s : Shared) (H : Hp) (vs : List V) (Q : VK) (E : XK), A.guards = some [] →
      Room k (A.deeper (envOfC qual scope s.heap.objs.size f cdv)) → sp vs H Q E →
      ∃ t, PSs (cxOf CX P w K mg base N qual scope f cdv A out s H E) body t ∧ t { nx := fun _ H' => Q .non H', rt := Q } (start N vs) H) :
    FnG P w K mg base CX (k + 1) f (PySem.W.fnOf name qual params body scope dV kV doc pm an cdv ct) ps sp := by
  refine ⟨args, ?_⟩
  intro A out s H ar us vs Q E gd room e0 bt rv want
  have nargs := args vs H Q E want
  have inK : K.In s.heap := e0.mod.kin.keeps (fun b o z => (e0.bs b o z).1)
  have noL : s.heap.NoLimit := e0.mod.nolimit.keeps (fun b o z => (e0.bs b o z).1)
  have kinds : ∀ y ∈ ps.zip us, scope.names.lookup y.1 = some .local ∨
      (scope.names.lookup y.1 = some .cell ∧ ((cellsFrom (s.heap.objs.size + 1) scope.names []).lookup y.1).isSome = true) := by
    intro y hy
    have hm := (List.of_mem_zip (show (y.1, y.2) ∈ ps.zip us from hy)).1
    cases S.par y.1 hm with
    | inl q => exact Or.inl q
    | inr q => exact Or.inr ⟨q, PySem.W.cellsFrom_some _ _ _ (Or.inl q)⟩
  refine codeAny_call_function room.depth (inK _ _ lk) rfl S.co S.gen rfl (PySem.W.codeRec_of inK code) (bt _ _ _ _ ?_)
  refine wpAny_newFunctionEnv_cells S.kind kinds fun env he s1 x => ?_
  cases he
  refine ⟨noL.keeps x.toInCall.keep, codeAny_func ?_⟩
  obtain ⟨t, ht, hq⟩ := hb A out s H vs Q E gd (room.deeper _) want
  have I := inv_start (CX := CX) (P := P) (w := w) (K := K) (mg := mg) (base := base) (E := E) S room.hd e0 nargs rv x
  refine wpAny_mono (ht.run [] s1 (start N vs) H _ I hq) ?_ (fun _ _ z => z)
  intro fl s' hs
  cases fl with
  | ret u =>
    obtain ⟨v, σ', H', J, r', q⟩ := hs
    exact ⟨v, H', J.os, J.bare, J.base, J.hok, r', q⟩
  | next =>
    obtain ⟨σ', H', J, q⟩ := hs
    exact ⟨V.non, H', J.os, J.bare, J.base, J.hok, rfl, q⟩
  | brk => obtain ⟨_, _, _, q⟩ := hs; exact q.elim
  | cont => obtain ⟨_, _, _, q⟩ := hs; exact q.elim
end

/-- the short word for it: nothing leaves the def -/
theorem okG {P : Program} {w : World} {K : PySem.W.Frag} {mg : Str → Option Value} {base : Heap} {x qual : Str} {st : Stmt} {f : Addr} {fd : FuncData}
    {N ps : List Str} {k : Nat} {sp : Sp} (F : Fun K x qual st f fd) (S : FnScope N ps (defScope st)) (args : ∀ vs H Q E, sp vs H Q E → vs.length = ps.length)
    (hb : ∀ (cdv : Value) (A : Around) (out : List Env) (s : Shared) (H : Hp) (vs : List V) (Q : VK) (E : XK), A.guards = some [] →
      Room k (A.deeper (envOfC qual (defScope st) s.heap.objs.size f cdv)) → sp vs H Q E →
      ∃ t, PSs (cxOf CX0 P w K mg base N qual (defScope st) f cdv A out s H E).nox (defBody st) t ∧ t { nx := fun _ H' => Q .non H', rt := Q } (start N vs) H) :
    FnG P w K mg base CX0 (k + 1) f fd ps sp := by
  obtain ⟨oc, od, kV, doc, pm, an, cdv, ct, osl, rfl, lk, code⟩ := F.ex
  refine fnG_of lk code S args ?_
  intro A out s H vs Q E gd room want
  obtain ⟨t, h, q⟩ := hb cdv A out s H vs Q E gd room want
  exact ⟨t, h.nox, q⟩

section
variable {X : Cx} {CX : CXT} {k : Nat} {f : Addr} {fd : FuncData} {ps : List Str} {sp : Sp} {dvs : List V} {ds : List Value} {E : XK}
/-- f(e, ..) of such a def -/
theorem pe_callG {x : Str} {p pos : Pos} {e : Expr} {es : List Expr} {t : TA} (F : FnG X.prog X.w X.K X.mg X.base CX k f fd ps sp) (gd : X.A.guards = some []) (hr : Room k X.A)
    (hg : Gl X x) (hm : X.mg x = some (.ref f)) (hk : PySem.W.keepIn X.K (.ref f) = true) (hb : Binds X.K fd ps ds) (hd : Vals dvs ds) (hx : Passes CX X E) (ha : PA X (e :: es) t)
    (hdb : (x == ("__debug__" : Str)) = false := by decide) (he : starEach (e :: es) X.env = (false, eval e X.env) :: starEach es X.env := by rfl)
    (hpl : (backTo pos (starEach es X.env)).any (·.1) = false := by rfl) :
    PE X (.Call (.Name x p) (e :: es) [] pos) (tCall sp dvs E t) := by
  constructor
  intro pins s σ H Q I h
  refine wpAny_Call_Name_kw (ld_glob I hg hm ?_ hdb)
  refine PySem.W.callWith_K (h₀ := X.base) I.ok.mod.kin hk (thn (ha.run pos pins s σ H _ I h) ?_) he hpl
  rintro us s1 ⟨vs, H1, I1, r, q⟩
  refine ⟨I1.kIn, ?_⟩
  have r2 : Vals (vs ++ dvs) (us ++ ds) := r.append hd
  have hl : (us ++ ds).length = ps.length := r2.length.symm.trans (F.args _ _ _ _ q)
  refine wpAny_call (codeAny_mono (F.go X.A X.stack s1 H1 ⟨us, []⟩ (us ++ ds) (vs ++ dvs) Q E gd hr I1.env0 (hb s1 us I1.kIn hl) r2 q) ?_)
  intro r s' hq
  match r, hq with
  | .error e, hq => exact hx pins σ H1 s1 e s' I1 hq
  | .ok (.ret u), hq => exact I1.after hq
end

/-- the law's own call -/
theorem law_callG {P : Program} {w : World} {K : PySem.W.Frag} {mg mb : Str → Option Value} {CX : CXT} {k : Nat} {fa a : Addr} {fd : FuncData} {x : Str} {sp : Sp} {s1 : Shared} {vs : List Value} {ns : List Int}
    (KX : K.In s1.heap) (hns : s1.heap.Ns mainGlobals mg) (hb : s1.heap.Ns builtinsNs mb) (hbb : ∀ x : Str, x ≠ "__name__" → mb x = bootBuiltins x) (hlim : s1.heap.NoLimit) (hg : s1.gens = #[])
    (ha : s1.heap.get? a = some { cls := .type "list", data := .seq vs.toArray }) (hi : IntsAre vs ns) (hl : ns.length ≤ sizeLine) (hr : Room k callerA)
    (F : ∀ base : Heap, K.In base → base.Ns mainGlobals mg → FnG P w K mg base CX k fa fd [x] sp) (hbind : ∀ (s : Shared) (u : Value), BindsTo s fd ⟨[u], []⟩ [(x, u)])
    (hsp : ∀ H : Hp, Only H → SqL K H a (ns.map V.int) → sp [.ref a] H (fun v _ => v = .bl true) fun _ _ _ => False)
    (hCX : ∀ H e s', CX [] H s1 (fun _ _ _ => False) e s' → False) :
    codeAny (model P w) callerA (.call (.ref fa) ⟨[.ref a], []⟩) (fun r s' => r = .ok (.ret (.bool true)) ∧ OldK s1.heap s'.heap ∧ s'.os = s1.os ∧ AllBare s'.gens) s1 := by
  -- the promise at this one state, as a promise of any surroundings: the run is asked at callerA alone
  have rv := vals_ints hi
  have lenV := hi.length
  have main : ∀ H : Hp, Only H → SqL K H a (ns.map V.int) → HOk P w H s1.heap → (∀ b, H b ≠ none → b = a) → (H a ≠ none → K.lookup a = none) →
      codeAny (model P w) callerA (.call (.ref fa) ⟨[.ref a], []⟩) (fun r s' => r = .ok (.ret (.bool true)) ∧ OldK s1.heap s'.heap ∧ s'.os = s1.os ∧ AllBare s'.gens) s1 := by
    intro H only sq ok atA notK
    have freeDict : ∀ {b : Addr} {o : Obj} {es : Array DictEntry} {ep : Nat}, s1.heap.get? b = some o → o.data = .dict es ep → H b = none := by
      intro b o es ep e d
      cases q : H b with
      | none => rfl
      | some u =>
        have e' := atA b (by rw [q]; exact fun z => nomatch z)
        subst e'
        rw [ha] at e
        cases e
        cases d
    have nsIn : ∀ {b : Addr} {m : Str → Option Value}, s1.heap.Ns b m → (hidT s1.heap H).Ns b m := by
      rintro b m ⟨o, es, ep, e, d, r⟩
      exact ⟨o, es, ep, hidT_get e (freeDict e d), d, r⟩
    have inB : K.In (hidT s1.heap H) := by
      intro b o e
      refine hidT_get (KX b o e) ?_
      cases q : H b with
      | none => rfl
      | some u =>
        have e' := atA b (by rw [q]; exact fun z => nomatch z)
        subst e'
        have z := notK (by rw [q]; exact fun z => nomatch z)
        rw [z] at e
        cases e
    have limB : (hidT s1.heap H).NoLimit := by
      obtain ⟨mc, h1, h2⟩ := hlim
      exact ⟨mc, nsIn h1, h2⟩
    have md : Mod K mg (hidT s1.heap H) := ⟨inB, nsIn hns, ⟨mb, nsIn hb, hbb⟩, limB⟩
    have e0 : Env0 P w K mg (hidT s1.heap H) callerA [] s1 H :=
      ⟨rfl, md, fun b o e => of_hidT e, Nat.le_of_eq (hidT_size _ _), trivial, fun b hb => (List.not_mem_nil (show b ∈ ([] : List Addr) from hb)).elim, ok, .of_eq hg⟩
    refine codeAny_mono ((F _ inB (nsIn hns)).go callerA [] s1 H ⟨[.ref a], []⟩ [.ref a] [.ref a] _ _ rfl hr e0 (hbind s1 (.ref a)) (.cons rfl .nil) (hsp H only sq)) ?_
    intro r s' h
    match r, h with
    | .error e, h => exact (hCX H e s' h).elim
    | .ok (.ret u), h =>
      obtain ⟨v, H', os, bare, un, ok', r', q⟩ := h
      cases (show v = .bl true from q)
      cases (show u = Value.bool true from r')
      refine ⟨rfl, OldK.of_keep ?_, os, bare⟩
      intro b o e
      cases q : H b with
      | none => exact un.keep b o e q (fun z => List.not_mem_nil (show b ∈ ([] : List Addr) from z)) (fun z => List.not_mem_nil z)
      | some u =>
        rcases only b with z | ⟨ob, xs, z⟩
        · rw [q] at z
          cases z
        · obtain ⟨e1, _⟩ := ok b _ z
          obtain ⟨e2, _⟩ := ok' b _ (un.frzs b ob _ z)
          rw [e] at e1
          cases e1
          exact e2
  cases hk : K.lookup a with
  | some o =>
    have e := KX a o hk
    rw [ha] at e
    cases e
    refine main (fun _ => none) (fun _ => .inl rfl) ?_ (fun b u z => nomatch (show (none : Option HO) = some u from z)) (fun b z => absurd rfl z) (fun z => absurd rfl z)
    exact .inr ⟨_, vs.toArray, _, hk, rfl, rfl, rfl, by rw [List.size_toArray, lenV]; exact hl, by simpa using rv⟩
  | none =>
    let o0 : Obj := { cls := .type "list", data := .seq vs.toArray }
    refine main (fun b => if b = a then some (.frz o0 (.lst (ns.map V.int))) else none) ?_ ?_ ?_ ?_ (fun _ => hk)
    · intro b
      by_cases hb : b = a
      · exact .inr ⟨_, _, if_pos hb⟩
      · exact .inl (if_neg hb)
    · exact .inl (.inr ⟨o0, if_pos rfl⟩)
    · intro b u z
      by_cases hb : b = a
      · cases (if_pos hb).symm.trans z
        subst hb
        exact ⟨ha, by rw [List.length_map]; exact hl, vs, _, rv, ha⟩
      · cases (if_neg hb).symm.trans z
    · intro b z
      by_cases hb : b = a
      · exact hb
      · exact absurd (if_neg hb) z

/-- a statement, and what is known behind it on all its ways; then the rest, once -/
def tMid (t u : TS) : TS := fun D σ H => ∃ M : L2.St → Hp → Prop, t { D with nx := M } σ H ∧ ∀ τ G, M τ G → u D τ G
theorem pss_mid {X : Cx} {st : Stmt} {more : List Stmt} {t u : TS} (a : PS X st t) (b : PSs X more u) : PSs X (st :: more) (tMid t u) := by
  constructor
  intro pins s σ H D I h
  obtain ⟨M, h1, h2⟩ := h
  refine wpAny_execs_cons (thn (a.run pins s σ H { D with nx := M } I h1) ?_)
  intro fl s1 q
  match fl, q with
  | .next, ⟨τ, G, J, q⟩ => exact b.run pins s1 τ G D J (h2 τ G q)
  | .ret _, q => exact q
  | .brk, q => exact q
  | .cont, q => exact q

/-- the end of a law whose def is such a one -/
theorem walkG {l : PySem.W.OpenLaw} {n k : Nat} {q : Program} {loose : List Str} {XP : (Str → Option Value) → Heap → Prop} {YP : World → Heap → Prop} {d : DefRec} {K : Params → PySem.W.Frag} {CX : World → CXT} {sp : World → Sp} {x : Str}
    (hn : l.most = some n) (hn2 : n ≤ sizeLine) (hdf : d.params.defaults = []) (hr : Room k callerA)
    (hY : ∀ (w : World) (h : Heap), YP w h → (K w.params).In h)
    (F : ∀ (w : World) (mg : Str → Option Value) (fa : Addr) (h : Heap), (K w.params).In h → h.Ns mainGlobals mg → mg d.name = some (.ref fa) →
      ∃ fd : FuncData, (∀ (s : Shared) (u : Value), BindsTo s fd ⟨[u], []⟩ [(x, u)]) ∧
        ∀ base : Heap, (K w.params).In base → base.Ns mainGlobals mg → FnG l.prog w (K w.params) mg base (CX w) k fa fd [x] (sp w))
    (hsp : ∀ (w : World) (H : Hp) (a : Addr) (ns : List Int), ns.length ≤ n → Only H → SqL (K w.params) H a (ns.map V.int) → sp w [.ref a] H (fun v _ => v = .bl true) fun _ _ _ => False)
    (hCX : ∀ (w : World) (H : Hp) (s : Shared) (e : Value) (s' : Shared), CX w [] H s (fun _ _ _ => False) e s' → False) :
    PySem.W.WalkO q loose XP YP l.row.toRowW d [] (fun f vs => PySem.call f vs) := by
  refine Att.attach_call hn hdf ?_
  intro w s₀ s₁ mg mb fa o pm cd doc a vs ns G Y ho hd hcd hmg hobj hints hlen hg
  have KX := hY w _ Y
  obtain ⟨fd, hb, hF⟩ := F w mg fa _ KX G.T.g hmg
  exact law_callG KX G.T.g G.T.b G.T.builtins G.T.nolimit hg hobj hints (Nat.le_trans hlen hn2) hr hF hb (fun H hO hS => hsp w H a ns hlen hO hS) (fun H e s' => hCX w H s₁ e s')

end Wk
set_option Elab.async false
set_option linter.all false
set_option maxRecDepth 100000
set_option maxHeartbeats 4000000
/-! Exceptions of own classes with an own __init__, as values: made with positional and keyword arguments, asked by isinstance, their fields read; repr of data. -/
namespace WkE
open PySem PySem.Spec PyProof.Rows PySem.HandSPX
section
variable {prog : Program} {w : World} {A : Around} {E : Value → Shared → Prop} {R : Result → Shared → Prop} {h : Heap} {g : Array GenState} {d : Drawn} {t : Nat} {os : OsState}
variable {nm q : Str} {C N : Addr} {bs bm bmB : List Value} {hdct : Bool} {sn : List Str} {sub : List Value} {ab : Bool} {col : Option Bool} {dd : Option Addr} {k0 k1 k2 k3 k5 : Option Value} {B newId initId : String}
variable {rest : List Value} {kw : List (Str × Value)} {fI : Addr}

theorem newCheck {Q : Unit → Shared → Prop} (F : ExcBaseFacts B newId initId bmB) (hT : ∀ X : String, bm.contains (.type X) = bmB.contains (.type X))
    (hC : h.get? C = some (excClassObj nm q C N bs bm hdct sn sub ab col dd k0 k1 k2 k3 k5 newId)) (fin : Q () ⟨h, g, d, t, os⟩) :
    wpAny (model prog w) A (checkBuiltinCall newId ⟨.ref C :: rest, kw⟩) Q E ⟨h, g, d, t, os⟩ := by
  have inB : (Value.ref C :: bm).contains (.type B) = true := by
    rw [List.contains_cons, hT, F.hasB]
    exact Bool.or_true _
  have star := F.noStar
  simp only [checkBuiltinCall, F.newKind, F.newSplit, F.newRow]
  repeat (first
    | refine wpAny_loadPart_at hC ?_
    | (refine wpAny_isSubtype_exc hC ?_; rw [inB])
    | refine wpAny_staticBase_exc hC ?_
    | refine wpAny_madeBy_exc hC ?_
    | simp only [bne_self_eq_false, Bool.false_eq_true, if_false]
    | wp_step)
  exact fin

theorem newRun (F : ExcBaseFacts B newId initId bmB) (hT : ∀ X : String, bm.contains (.type X) = bmB.contains (.type X))
    (hC : h.get? C = some (excClassObj nm q C N bs bm hdct sn sub ab col dd k0 k1 k2 k3 k5 newId))
    (fin : R (.ok (.ret (.ref (h.objs.size + 1)))) ⟨(h.push (W.kdv_tup rest)).push (excO C h.objs.size), g, d, t, os⟩) (few : rest.length ≤ sizeLine) :
    codeAny (model prog w) A (.builtin newId ⟨.ref C :: rest, kw⟩) R ⟨h, g, d, t, os⟩ := by
  have ends := F.ends
  have inB : (Value.ref C :: bm).contains (.type B) = true := by
    rw [List.contains_cons, hT, F.hasB]
    exact Bool.or_true _
  have noA : (Value.ref C :: bm).contains (.type "AttributeError") = false := by
    rw [List.contains_cons, hT, F.noAttr]
    rfl
  have noN : (Value.ref C :: bm).contains (.type "NameError") = false := by
    rw [List.contains_cons, hT, F.noName]
    rfl
  refine PySem.codeAny_builtinAt F.entry ?_
  unfold Builtin.«BaseException.__new__»
  refine PySem.wpAt_bind ?_
  show PySem.wpAt _ _ _ (stack >>= _) _ _ _
  refine PySem.wpAt_bind (PySem.wpAt_stack fun p below => PySem.wpAt_of_wpAny ?_)
  wp_walk
  refine PySem.wpAt_of_wpAny ?_
  rw [F.owner]
  repeat (first
    | with_reducible refine wpAny_madeHere_exc F.canon hC ?_
    | with_reducible refine wpAny_loadPart_at hC ?_
    | (with_reducible refine wpAny_isSubtype_exc hC ?_; first | rw [inB] | rw [noA] | rw [noN])
    | wp_step)
  show R _ _
  rw [Heap.size_push]
  exact fin

theorem typeCall {Q : Fin → Shared → Prop} (F : ExcBaseFacts B newId initId bmB) (hT : ∀ X : String, bm.contains (.type X) = bmB.contains (.type X))
    (hC : h.get? C = some (excClassObj nm q C N bs bm hdct sn sub ab col dd k0 k1 k2 k3 k5 newId))
    (hi : W.Looks (model prog w) h (typeLookup (.ref C) "__init__") (some (.ref fI))) (hb : ∀ self, W.Looks (model prog w) h (bindSpecial (.ref fI) self) (.ref fI, [self])) (few : rest.length ≤ sizeLine)
    (fin : codeAny (model prog w) A (.call (.ref fI) ⟨.ref (h.objs.size + 1) :: rest, kw⟩)
      (fun r s' => match r with | .ok (.ret v) => v = .none ∧ Q (.done (.ret (.ref (h.objs.size + 1)))) s' | .ok _ => False | .error e => E e s')
      ⟨(h.push (W.kdv_tup rest)).push (excO C h.objs.size), g, d, t, os⟩) :
    wpAny (model prog w) A (Builtin.«type.__call__» ⟨.ref C :: rest, kw⟩) Q E ⟨h, g, d, t, os⟩ := by
  repeat (first | with_reducible refine wpAny_loadPart_at hC ?_ | with_reducible refine wpAny_madeBy_exc hC ?_ | wp_step)
  refine codeAny_call_builtin_code (Code.quiet_builtin _ F.quiet) (newCheck F hT hC ?_)
  refine newRun F hT hC ?_ few
  show wpAny _ _ _ _ _ _
  have kept : ∀ b o, h.get? b = some o → ((h.push (W.kdv_tup rest)).push (excO C h.objs.size)).get? b = some o := by
    intro b o e
    exact Heap.get?_push_of_some _ (Heap.get?_push_of_some _ e)
  have hC1 := kept _ _ hC
  have atNew : ((h.push (W.kdv_tup rest)).push (excO C h.objs.size)).get? (h.objs.size + 1) = some (excO C h.objs.size) := by heap_get
  have inC : (Value.ref C :: bm).contains (.ref C) = true := by simp
  have i1 := hi.keeps kept
  have b1 := (hb (.ref (h.objs.size + 1))).keeps kept
  unfold isInstance
  repeat (first | with_reducible refine wpAny_loadPart_at atNew ?_ | (with_reducible refine wpAny_isSubtype_exc hC1 ?_; rw [inC]) | wp_step)
  show wpAny _ _ (typeLookup (.ref C) _) _ _ _
  refine i1.at ?_
  refine wpAny_holding (wpAny_bind (b1.at ?_))
  refine wpAny_bind (wpAny_call (codeAny_mono fin fun r s' z => ?_))
  rcases r with e | (v | _ | _ | _) <;> first | exact z | exact z.elim | skip
  obtain ⟨rfl, z⟩ := z
  first
    | exact wpAny_pure (wpAny_pure z)
    | (wp_walk; exact z)

theorem typeCallCheck {Q : Unit → Shared → Prop} (hC : h.get? C = some (excClassObj nm q C N bs bm hdct sn sub ab col dd k0 k1 k2 k3 k5 newId))
    (fin : Q () ⟨h, g, d, t, os⟩) : wpAny (model prog w) A (checkBuiltinCall "type.__call__" ⟨.ref C :: rest, kw⟩) Q E ⟨h, g, d, t, os⟩ := by
  have f3 := tc_sub
  have isT : (⟨h, g, d, t, os⟩ : Shared).TypeIs (.ref C) "type" := ⟨_, hC, rfl⟩
  simp only [checkBuiltinCall, tc_kind, tc_split]
  repeat (any_goals (first | assumption | with_reducible refine wpAny_loadPart_at hC ?_ | with_reducible refine wpAny_onRaise ?_ | with_reducible refine wpAny_map ?_ | wp_step))

/-- C(.., k = v, ..) -/
theorem callNew (F : ExcBaseFacts B newId initId bmB) (hT : ∀ X : String, bm.contains (.type X) = bmB.contains (.type X))
    (hC : h.get? C = some (excClassObj nm q C N bs bm hdct sn sub ab col dd k0 k1 k2 k3 k5 newId))
    (hi : W.Looks (model prog w) h (typeLookup (.ref C) "__init__") (some (.ref fI))) (hb : ∀ self, W.Looks (model prog w) h (bindSpecial (.ref fI) self) (.ref fI, [self])) (few : rest.length ≤ sizeLine)
    (fin : codeAny (model prog w) (A.under (.builtin "type.__call__" ⟨.ref C :: rest, kw⟩)) (.call (.ref fI) ⟨.ref (h.objs.size + 1) :: rest, kw⟩) (W.InitBack (h.objs.size + 1) R)
      ⟨(h.push (W.kdv_tup rest)).push (excO C h.objs.size), g, d, t, os⟩) :
    codeAny (model prog w) A (.call (.ref C) ⟨rest, kw⟩) R ⟨h, g, d, t, os⟩ := by
  have f1 := tc_lookup
  have f2 := tc_bind (.ref C)
  have isT : (⟨h, g, d, t, os⟩ : Shared).TypeIs (.ref C) "type" := ⟨_, hC, rfl⟩
  refine codeAny_of_tree ?_
  show wpAny _ _ (callAny (.ref C) _) _ _ _
  repeat (any_goals (first | assumption | with_reducible refine wpAny_loadPart_at hC ?_ | wp_step))
  refine ⟨rfl, ?_⟩
  refine codeAny_call_builtin_at (Code.quiet_builtin _ (by decide +kernel)) entry_typeCall (typeCallCheck hC (typeCall F hT hC hi hb few ?_))
  refine codeAny_mono fin fun r s' z => ?_
  rcases r with e | (v | _ | _ | _) <;> exact z
end
end WkE

namespace Wk
open PySem PySem.Spec PyProof.Rows L2
/-- C(.., k = v, ..) of an exception class with its own __init__, as a value: n positional values, m keywords; H3 holds the exception and its dict -/
def tMkV (C : Addr) (n m : Nat) (sp : Sp) (gV : List V → List V → List V) (t tk : TA) : TE := fun σ H Q => t σ H fun vs H1 => tk σ H1 fun zs H2 => vs.length = n ∧ zs.length = m ∧
  ∀ a, H2 a = none → sp (gV (.ref a :: vs) zs) (upd H2 a (exo a C none)) (fun v H3 => v = .non ∧ Q (.ref a) H3) fun _ _ _ => False
section
variable {X : Cx} {CX : CXT} {k n : Nat} {fI C : Addr} {fd : FuncData} {ps ks : List Str} {sp : Sp} {x : Str} {p pos : Pos} {e : Expr} {es : List Expr} {kws : List Keyword} {t tk : TA}
variable {g : List Value → List Value → List Value} {gV : List V → List V → List V}
theorem runMkV {pins : List (Addr × Obj)} {σ : L2.St} {H : Hp} {s : Shared} {Q : VK} {us ws : List Value} {vs zs : List V} (T : OexC X.K C)
    (iC : PySem.W.findIn X.K (.ref C) "__init__" = some (some (.ref fI))) (tI : PySem.W.typeIn X.K (.ref fI) = some (.type "function"))
    (F : FnOk X.prog X.w X.K X.mg X.base CX k fI fd ps sp) (hr : Room (k + 1) X.A) (hb : KBn X.K fd ps (n + 1) ks g gV) (hx : Passes CX X fun _ _ _ => False)
    (I : Inv X pins σ H s) (r : Vals vs us) (rz : Vals zs ws) (l1 : vs.length = n) (l2 : zs.length = ks.length) (hn : n ≤ 1000)
    (want : ∀ a, H a = none → sp (gV (.ref a :: vs) zs) (upd H a (exo a C none)) (fun v H3 => v = .non ∧ Q (.ref a) H3) fun _ _ _ => False) :
    wpAny (model X.prog X.w) X.A (call (.ref C) us (ks.zip ws)) (EP X pins σ Q) X.xe s := by
  obtain ⟨nm, q, N, bs, bm, sn, sub, ab, col, dd, k0, k1, k2, k3, k5, hC, hbm⟩ := T.cls
  obtain ⟨hp, gs, dr, tok, os⟩ := s
  have le : hp.objs.size ≤ hp.objs.size + 1 := Nat.le_succ _
  have free : H (hp.objs.size + 1) = none := I.hok.fresh le
  have hq := want (hp.objs.size + 1) free
  have kept : ∀ b o, hp.get? b = some o → ((hp.push (PySem.W.kdv_tup us)).push (PySem.HandSPX.excO C hp.objs.size)).get? b = some o :=
    fun b o e => Heap.get?_push_of_some _ (Heap.get?_push_of_some _ e)
  have atNew : ((hp.push (PySem.W.kdv_tup us)).push (PySem.HandSPX.excO C hp.objs.size)).get? (hp.objs.size + 1) = some (PySem.HandSPX.excO C hp.objs.size) := by heap_get
  have I2 : Inv X pins σ (upd H (hp.objs.size + 1) (exo (hp.objs.size + 1) C none)) ⟨(hp.push (PySem.W.kdv_tup us)).push (PySem.HandSPX.excO C hp.objs.size), gs, dr, tok, os⟩ :=
    I.laid (t' := tok) kept le (exo_ok atNew)
  have r1 : Vals (V.ref (hp.objs.size + 1) :: vs) (Value.ref (hp.objs.size + 1) :: us) := .cons rfl r
  have r2 := hb.rel r1 rz
  have n1 : (Value.ref (hp.objs.size + 1) :: us).length = n + 1 := by
    rw [List.length_cons, ← r.length, l1]
  have few : us.length ≤ sizeLine := by
    rw [← r.length, l1, sizeLine_eq]
    omega
  refine wpAny_call (WkE.callNew PySem.F.excBase_ValueError (fun Y => PySem.HandSPX.refsVE_contains Y bm hbm) (I.kIn _ _ hC) (PySem.W.looks_findIn I.kIn iC) (fun self => PySem.W.bind_fn I.kIn self tI) few ?_)
  refine codeAny_mono (F.run _ X.stack _ _ ⟨Value.ref (hp.objs.size + 1) :: us, ks.zip ws⟩ (g (Value.ref (hp.objs.size + 1) :: us) ws) _ _ (fun _ _ _ => False)
    (hr.make C us (ks.zip ws)) (I2.env0.make C us (ks.zip ws)) (hb.to _ (Value.ref (hp.objs.size + 1) :: us) ws I2.kIn n1 (rz.length.symm.trans l2)) r2 hq) ?_
  intro r s' hq'
  match r, hq' with
  | .error er, hq' => exact hx pins σ _ _ er s' I2 hq'
  | .ok (.ret u), hq' =>
    obtain ⟨v, H3, I3, rv, ev, q3⟩ := I2.after hq'
    subst ev
    exact ⟨rv, V.ref (hp.objs.size + 1), H3, I3, rfl, q3⟩
/-- C(e, ..) -/
theorem pe_mkV (T : OexC X.K C) (iC : PySem.W.findIn X.K (.ref C) "__init__" = some (some (.ref fI))) (tI : PySem.W.typeIn X.K (.ref fI) = some (.type "function"))
    (F : FnOk X.prog X.w X.K X.mg X.base CX k fI fd ps sp) (hr : Room (k + 1) X.A) (hb : KBn X.K fd ps (n + 1) [] g gV) (hx : Passes CX X fun _ _ _ => False) (hn : n ≤ 1000)
    (hg : Gl X x) (hm : X.mg x = some (.ref C)) (ha : PA X (e :: es) t) (hdb : (x == ("__debug__" : Str)) = false := by decide)
    (he : starEach (e :: es) X.env = (false, eval e X.env) :: starEach es X.env := by rfl) (hpl : (backTo pos (starEach es X.env)).any (·.1) = false := by rfl) :
    PE X (.Call (.Name x p) (e :: es) [] pos) (tMkV C n 0 sp gV t tNil) := by
  constructor
  intro pins s σ H Q I h
  refine wpAny_Call_Name_kw (ld_glob I hg hm ?_ hdb)
  refine PySem.W.callWith_K (h₀ := X.base) I.ok.mod.kin T.kC (thn (ha.run pos pins s σ H _ I h) ?_) he hpl
  rintro us s1 ⟨vs, H1, I1, r, l1, l2, q⟩
  exact ⟨I1.kIn, runMkV (ks := []) (ws := []) (zs := []) T iC tI F hr hb hx I1 r .nil l1 rfl hn q⟩
/-- C(k = v, ..) -/
theorem pe_mkVK (T : OexC X.K C) (iC : PySem.W.findIn X.K (.ref C) "__init__" = some (some (.ref fI))) (tI : PySem.W.typeIn X.K (.ref fI) = some (.type "function"))
    (F : FnOk X.prog X.w X.K X.mg X.base CX k fI fd ps sp) (hr : Room (k + 1) X.A) (hb : KBn X.K fd ps 1 ks g gV) (hx : Passes CX X fun _ _ _ => False)
    (hg : Gl X x) (hm : X.mg x = some (.ref C)) (hkw : PK X kws tk) (hall : (backToKw pos (keywordEach kws X.env)).all (·.1.isSome) = true := by rfl)
    (hks : (backToKw pos (keywordEach kws X.env)).filterMap (·.1) = ks := by rfl) (hdb : (x == ("__debug__" : Str)) = false := by decide)
    (hpl : ((backTo pos (starEach [] X.env)).any (·.1) || (backToKw pos (keywordEach kws X.env)).any (·.1.isNone)) = false := by rfl) :
    PE X (.Call (.Name x p) [] kws pos) (tMkV C 0 ks.length sp gV tNil tk) := by
  constructor
  intro pins s σ H Q I h
  refine wpAny_Call_Name_kw (ld_glob I hg hm ?_ hdb)
  refine PySem.W.callWith_KW0 (h₀ := X.base) I.ok.mod.kin T.kC hall (thn (hkw.run pos pins s σ H _ I h) ?_) hpl
  rintro ws s2 ⟨zs, H2, I2, rz, l1, l2, q2⟩
  refine ⟨I2.kIn, ?_⟩
  rw [hks]
  exact runMkV (us := []) (vs := []) T iC tI F hr hb hx I2 .nil rz rfl l2 (Nat.zero_le _) q2
end

/-! ### isinstance of such a value -/
/-- what the class at D says, so that isinstance asks its instances rightly -/
structure IsC (K : PySem.W.Frag) (D : Addr) : Prop where
  cl : (PySem.W.clsIn K D).isSome = true
  ga : PySem.W.findIn K (.ref D) "__getattribute__" = some (some (.builtin "BaseException.__getattribute__"))
  gt : PySem.W.findIn K (.ref D) "__getattr__" = some none
  sub : PySem.W.subIn K (.ref D) (.type "BaseException") = some true
  cls : PySem.W.findIn K (.ref D) "__class__" = some (some (.builtin "object.__class__"))
  get : PySem.W.specialIn K (.builtin "object.__class__") "__get__" = some (some (.builtin "getset_descriptor.__get__"))
  tak : PySem.W.takesIn K (.builtin "object.__class__") = some true
  mro : PySem.W.mroIn K D (.type "object") = some true
/-- isinstance(x, c), x an exception with its dict -/
def rIsX (K : PySem.W.Frag) : List V → Hp → VK → Prop := fun xs H Q => ∃ (a C dx : Addr) (fs : List (Str × V)) (c : V) (u : Value) (b : Bool),
  xs = [.ref a, c] ∧ H a = some (exo a C (some dx)) ∧ H dx = some (exd dx fs) ∧ IsC K C ∧ ClsV c u ∧ PySem.W.kitOne K (.ref C) u = some b ∧ Q (.bl b) H
section
variable {X : Cx}
theorem call_isX : CallR X (.builtin "isinstance") (rIsX X.K) := by
  intro pins s σ H xs us Q I r h
  obtain ⟨a, C, dx, fs, c, u, b, rfl, ea, ed, T, kc, e, q⟩ := h
  obtain ⟨u1, u2, rfl, r1, r2⟩ := vals2 r
  cases kc.eq r2
  cases (show u1 = Value.ref a from r1)
  obtain ⟨t1, ho⟩ := exo_at I.hok ea
  obtain ⟨mA, hns, rel⟩ := exd_at I.hok ed
  obtain ⟨od, hod, _⟩ := lookIn_ns hns
  have J : PySem.W.InstAt s.heap a { cls := .ref C, dict := some dx, data := .fields #[.ref t1, .none, .none, .none, .bool false, .none] } C (some od) := ⟨ho, rfl, rfl, hod⟩
  exact PySem.W.kia_one (PySem.W.kitx_exc T.cl T.ga T.gt T.sub T.cls T.get T.tak T.mro) I.kIn J e (fun z => nomatch z) fun tk => ⟨.bl b, H, I.tok tk, rfl, q⟩
/-- isinstance(x, (c1, ..)), x an exception without a dict -/
def rIsXT (K : PySem.W.Frag) : List V → Hp → VK → Prop := fun xs H Q => ∃ (a C tp : Addr) (cs : List V) (us : List Value) (b : Bool),
  xs = [.ref a, .ref tp] ∧ H a = some (ExO (.ref C) a) ∧ H tp = some (.tup cs) ∧ IsC K C ∧ Paired ClsV cs us ∧ PySem.W.kitAny K (.ref C) us = some b ∧ Q (.bl b) H
theorem call_isXT : CallR X (.builtin "isinstance") (rIsXT X.K) := by
  intro pins s σ H xs us Q I r h
  obtain ⟨a, C, tp, cs, ws, b, rfl, ea, hT, T, kc, e, q⟩ := h
  obtain ⟨u1, u2, rfl, r1, r2⟩ := vals2 r
  cases (show u1 = Value.ref a from r1)
  cases (show u2 = Value.ref tp from r2)
  obtain ⟨⟨oe, vs, ho, hz, hd, _⟩, _, _⟩ := I.hok a _ ea
  obtain ⟨_, its, rv, o, h1, h2, n, h3⟩ := (show ObjOk X.prog X.w H s.heap tp (.tup cs) from I.hok tp _ hT)
  cases ClsV.all kc rv
  obtain ⟨oc, od, dt, sl⟩ := o
  simp only at h2 h3
  subst h2 h3
  have J : PySem.W.InstAt s.heap a oe C none := ⟨ho, hz.1, by unfold PySem.W.notCls; rw [hd] <;> rfl, by rw [hz.2]; exact trivial⟩
  exact PySem.W.kia_tup (PySem.W.kitx_exc T.cl T.ga T.gt T.sub T.cls T.get T.tak T.mro) I.kIn J h1 e (fun z => nomatch z) fun tk => ⟨.bl b, H, I.tok tk, rfl, q⟩
end

/-! ### a field of such a value -/
def tXv (K : PySem.W.Frag) (f : Str) (te : TE) : TE := fun σ H Q => te σ H fun x H1 => ∃ (a C dx : Addr) (fs : List (Str × V)) (v : V), x = .ref a ∧ XfC K C ∧ PySem.W.findIn K (.ref C) f = some none ∧
  H1 a = some (exo a C (some dx)) ∧ H1 dx = some (exd dx fs) ∧ fs.lookup f = some v ∧ Q v H1
theorem pe_xv {X : Cx} {e : Expr} {te : TE} {pos : Pos} {f : Str} (he : PE X e te) (hb : attributeBase e f X.env (eval e X.env) = eval e X.env := by rfl) : PE X (.Attribute e f pos) (tXv X.K f te) := by
  constructor
  intro pins s σ H Q I h
  refine attr_of hb (thn (he.run pins s σ H _ I h) ?_)
  rintro u s1 ⟨x, H1, I1, rx, a, C, dx, fs, v, rfl, T, no, ea, ed, l, q⟩
  cases (show u = Value.ref a from rx)
  obtain ⟨t1, ho⟩ := exo_at I1.hok ea
  obtain ⟨mA, hns, rel⟩ := exd_at I1.hok ed
  obtain ⟨od, hod, hl⟩ := lookIn_ns hns
  obtain ⟨u, hu, ru⟩ := RelO.some_of (v := v) (o := mA f) (by rw [← l]; exact rel f)
  have J : PySem.W.InstAt s1.heap a { cls := .ref C, dict := some dx, data := .fields #[.ref t1, .none, .none, .none, .bool false, .none] } C (some od) := ⟨ho, rfl, rfl, hod⟩
  exact HandSPX.exc_get I1.kIn J T.ga T.gg T.exC (PySem.W.findObj_own T.hdC no rfl (by rw [hl, hu])) (handed_of ru) ⟨v, H1, I1.tok _, ru, q⟩

/-! ### C(), an exception class without an own __init__ -/
theorem pe_exc0 {X : Cx} {C : Addr} {bmB : List Value} {B newId initId : String} {x : Str} {p pos : Pos} (F : ExcBaseFacts B newId initId bmB) (q : PySem.W.excIn X.K C bmB newId = true) (gC : X.mg x = some (.ref C))
    (kC : PySem.W.keepIn X.K (.ref C) = true) (hg : Gl X x) (hdb : (x == ("__debug__" : Str)) = false := by decide) :
    PE X (.Call (.Name x p) [] [] pos) (fun σ H Q => ∀ a, H a = none → Q (.ref a) (upd H a (ExO (.ref C) a))) := by
  constructor
  intro pins s σ H Q I h
  refine wpAny_Call_Name_kw (ld_glob I hg gC ?_ hdb)
  refine PySem.W.callWith_K0 I.kIn kC ?_
  obtain ⟨bm, N, nm, qn, bs, hdct, sn, sub, ab, col, dd, k0, k1, k2, k3, k5, mN, hC, hN, hni, T⟩ := exc_obj I.kIn q
  refine wpAny_call_exc_subT F T hC hN hni (fun h' a hm => ?_) (by show 0 ≤ sizeLine; exact Nat.zero_le _)
  have free : H a = none := I.hok.gone hm.new
  obtain ⟨t, ht, _, _⟩ := hm.there
  exact ⟨.ref a, upd H a (ExO (.ref C) a), I.laidN hm.keeps hm.new free (exO_ok ht ⟨rfl, rfl⟩ rfl rfl rfl (show 4 < 6 by decide)), rfl, h a free⟩

/-! ### repr of data -/
/-- repr(x), x data: its text. No repr is under way -/
def rRepr (K : PySem.W.Frag) : List V → Hp → VK → Prop := fun xs H Q => ∃ (x : V) (d : PyData), xs = [x] ∧ Dp K H x d ∧ d.showable = true ∧ d.hasDict = false ∧ d.depth ≤ 60 ∧ (d.shown.length ≤ sizeLine ∨ ∃ i, d = .int i) ∧ Q (.str d.shown) H
theorem call_repr {X : Cx} (gd : X.A.guards = some []) (hu : X.A.units + 64 < cLine) : CallR X (.builtin "repr") (rRepr X.K) := by
  intro pins s σ H xs us Q I r h
  obtain ⟨x, d, rfl, dp, sh, nd, dep, sz, q⟩ := h
  obtain ⟨u, rfl, rx⟩ := vals1 r
  obtain ⟨as, rd⟩ := Dp.reads I d x u dp rx
  cases dp with
  | non =>
    cases rx
    exact PySem.P.repr_of_none ⟨.str _, H, I.tok _, ⟨_, rfl⟩, q⟩
  | bl b =>
    cases rx
    exact PySem.P.repr_of_bool ⟨.str _, H, I.tok _, ⟨_, rfl⟩, q⟩
  | int i =>
    obtain ⟨t, rfl⟩ := rx
    exact PySem.P.repr_of_int (by simpa [PyData.showable] using sh) ⟨.str _, H, I.tok _, ⟨_, rfl⟩, q⟩
  | str z =>
    obtain ⟨t, rfl⟩ := rx
    exact PySem.P.repr_of_str ⟨.str _, H, I.tok _, ⟨_, rfl⟩, q⟩ (sz.elim id fun ⟨_, e⟩ => nomatch e)
  | lst _ _ =>
    cases rx
    exact repr_of_reads' rd sh (PyData.noDict_hsm nd) gd (by omega) (fun _ _ e => e) (fun h' u tk hk => ⟨.str _, H, I.kept hk, ⟨_, rfl⟩, q⟩) (sz.elim id fun ⟨_, e⟩ => nomatch e)
  | tup _ _ =>
    cases rx
    exact repr_of_reads' rd sh (PyData.noDict_hsm nd) gd (by omega) (fun _ _ e => e) (fun h' u tk hk => ⟨.str _, H, I.kept hk, ⟨_, rfl⟩, q⟩) (sz.elim id fun ⟨_, e⟩ => nomatch e)
end Wk
set_option Elab.async false
set_option linter.all false
set_option maxRecDepth 100000
set_option maxHeartbeats 4000000
/-! try .. except X as n, where the suite keeps the error for later: behind the suite it is tracked; isinstance of such an error, its fields. -/
namespace Wk
open PySem PySem.Spec PyProof.Rows L2
/-- an error that has been caught: its class, its own dict -/
def ExH (cls : Value) (d : Option Addr) (a : Addr) : HO := .ext fun h => ∃ (oe : Obj) (vs : Array Value), h.get? a = some oe ∧ Zc cls d oe ∧ oe.data = .fields vs
theorem exH_ok {P : Program} {w : World} {H : Hp} {h : Heap} {a : Addr} {cls : Value} {d : Option Addr} {oe : Obj} {vs : Array Value} (e : h.get? a = some oe) (z : Zc cls d oe) (dd : oe.data = .fields vs) : ObjOk P w H h a (ExH cls d a) :=
  ⟨⟨oe, vs, e, z, dd⟩, ⟨oe, e⟩, fun _ _ ⟨o, v, q, r⟩ k => ⟨o, v, k o q, r⟩⟩
section
variable {X : Cx} {pins : List (Addr × Obj)} {σ : L2.St} {H : Hp} {s : Shared}
/-- an object that came behind the entry is tracked from now on -/
theorem track {a : Addr} {o : HO} (I : L2.Inv X pins σ H s) (free : H a = none) (late : ∀ b u, X.s_0.heap.get? b = some u → b ≠ a) (nL : a ≠ X.env.locals) (nC : ∀ x c, X.env.cells.lookup x = some c → c ≠ a)
    (nP : ∀ p ∈ X.pn ++ pins, p.1 ≠ a) (new : ObjOk X.prog X.w (upd H a o) s.heap a o) : L2.Inv X pins σ (upd H a o) s where
  ok := I.ok
  os := I.os
  bare := I.bare
  base := {
    keep := I.base.keep
    slot := I.base.slot
    free := fun b u e n hx => by
      rw [upd_ne (late b u e)]
      exact I.base.free b u e n hx
    there := I.base.there
    tups := fun b xs e => by
      have z := I.base.tups b xs e
      rw [upd_ne (ne_of_none z free)]
      exact z
    frzs := fun b u v e => by
      have z := I.base.frzs b u v e
      rw [upd_ne (ne_of_none z free)]
      exact z
    tbls := fun b ps e => by
      obtain ⟨m, z⟩ := I.base.tbls b ps e
      exact ⟨m, by rw [upd_ne (ne_of_none z free)]; exact z⟩ }
  loc := I.loc
  cell := I.cell
  free := by
    rw [upd_ne (Ne.symm nL)]
    exact I.free
  freeC := fun x c e => by
    rw [upd_ne (nC x c e)]
    exact I.freeC x c e
  pin := fun p hp => by
    obtain ⟨e, n, r⟩ := I.pin p hp
    exact ⟨e, by rw [upd_ne (nP p hp)]; exact n, r⟩
  hok := fun b u e => by
    by_cases hb : b = a
    · subst hb
      rw [upd_same] at e
      cases e
      exact new
    · rw [upd_ne hb] at e
      refine (I.hok b u e).stay (fun _ _ _ q => q) (fun c q => ?_) (fun c xs q => ?_)
      · rw [upd_ne (ne_of_none q free)]
        exact q
      · rw [upd_ne (ne_of_none q free)]
        exact q
  len := I.len
end
/-- what the clause wishes: its suite, with the error in slot i; behind the suite the error stands in the heap -/
def wKeep (K : PySem.W.Frag) (c : Value) (i : Nat) (ts : Addr → Value → Option Addr → TS) (Wout : WX) (D : Ends) : WX := fun cls d σ H =>
  ∃ b, PySem.W.exmOne K cls c = some b ∧
    (b = true → ∀ a, H a = none → ts a cls d { nx := fun τ G => D.nx (τ.set i none) (upd G a (ExH cls d a)), rt := D.rt, bk := fun τ G => D.bk (τ.set i none) (upd G a (ExH cls d a)), ct := fun τ G => D.ct (τ.set i none) (upd G a (ExH cls d a)) } (σ.set i (some (.ref a))) H) ∧
    (b = false → Wout cls d σ H)
section
variable {X : Cx} {x n : Str} {c : Value} {i : Nat} {body suite : List Stmt} {b0 : Stmt} {np pos pos' : Pos} {tb : WX → TS} {ts : Addr → Value → Option Addr → TS} {Wout : WX}
theorem ps_try_keep (hs : X.stack = X.env :: X.outer) (hf : X.env.frame = some X.env.locals) (hex : X.ex = []) (hN : X.N.Nodup) (hi : X.N[i]? = some n) (hln : X.env.kindOf n = some .local) (hc : Names X x c) (tk : Takes X Wout)
    (hb : ∀ (W : WX) (pn : List (Addr × Obj)) (xe : Value → Shared → Prop), Takes (X.tr pn xe) W → PassesOwn (model X.prog X.w) X.A X.env xe → PSs (X.tr pn xe) body (tb W))
    (hsu : ∀ (a : Addr) (oe : Obj) (cls : Value) (d : Option Addr) (pn : List (Addr × Obj)), Zc cls d oe → (∃ vs, oe.data = .fields vs) → PSs (X.suite a ((a, oe) :: pn)) (b0 :: suite) (ts a cls d)) :
    PS X (.Try body [.ExceptHandler (some (.Name x np)) (some n) (b0 :: suite) pos'] [] [] pos) (fun D σ H => tb (wKeep X.K c i ts Wout D) D σ H) := by
  constructor
  intro pins s σ H D I h
  have ok := I.ok
  have frames : X.A.frames = some (X.env :: X.outer) := by rw [ok.frames, hs]
  refine wpAny_Try_except ?_
  let after : Value → Shared → Prop := fun e s₁ => wpAny (model X.prog X.w) X.A (noteFrame e X.env) (fun _ s₂ => wpAny (model X.prog X.w) X.A (setFlight e none)
    (fun _ s₃ => wpAny (model X.prog X.w) X.A (handleBy e X.env [.ExceptHandler (some (.Name x np)) (some n) (b0 :: suite) pos']) (SP X pins D) X.xe s₃) X.xe s₂) X.xe s₁
  have catch_ : Takes (X.tr (X.pn ++ pins) after) (wKeep X.K c i ts Wout D) := by
    rintro u s' ⟨a, B, sI, pins', σ', H', cls, d, rfl, J', nb, up, sky, na, os, ag, b, hb1, yes, no⟩
    have J : L2.Inv X pins σ' H' sI := J'.ofTry ok
    have sky' : Sky B (X.env :: X.outer) a (Zc cls d) X.env.locals s'.heap := by rw [← hs]; exact sky
    show wpAny (model X.prog X.w) X.A (noteFrame (.ref a) X.env) _ _ _
    refine Sky.land Zc.steady frames hf sky' fun h3 fl3 up3 => ?_
    have J3 : L2.Inv X pins σ' H' { s' with heap := h3 } := J.landed nb fl3.1 (up.trans up3) os ag
    obtain ⟨oe3, vs3, he3, hz3, hd3⟩ := fl3.there
    have noB : B.get? a = none := fl3.2.1
    have nfr : a ∉ frs (X.env :: X.outer) := by
      intro hm
      obtain ⟨_, o', e', hnf⟩ := fl3.2.2.1.mem hm
      rw [he3] at e'
      cases e'
      exact hnf _ hd3
    have nL : a ≠ X.env.locals := fun z => nfr (List.mem_filterMap.mpr ⟨X.env, List.mem_cons_self, by rw [hf, z]⟩)
    have nF : a ∉ X.fs := by
      intro hm
      obtain ⟨e, he, q⟩ := List.mem_filterMap.mp hm
      exact nfr (List.mem_filterMap.mpr ⟨e, List.mem_cons_of_mem _ he, q⟩)
    -- what stood at the entry, the pins, the cells: none of them is the error
    have late : ∀ b u, X.s_0.heap.get? b = some u → b ≠ a := by
      intro b u e z
      by_cases hm : b ∈ frs (X.env :: X.outer)
      · exact nfr (z ▸ hm)
      · obtain ⟨o', e'⟩ := J.base.there b u e (by rw [hex]; exact List.not_mem_nil)
        have q := nb b o' e' (by rw [hs]; exact hm)
        rw [z, noB] at q
        cases q
    have pinsA : ∀ p ∈ X.pn ++ pins, p.1 ≠ a := by
      intro p hp z
      obtain ⟨e, _, ne, nf, _⟩ := J.pin p hp
      have hm : p.1 ∉ frs (X.env :: X.outer) := by rw [z]; exact nfr
      have q := nb p.1 p.2 e (by rw [hs]; exact hm)
      rw [z, noB] at q
      cases q
    have S3 := J3.suite he3 hd3 na nL nF
    refine wpAny_handleBy_cons (codeAny_handlers_test ?_) (by intro q; cases q)
    have tyA : PySem.W.Looks (model X.prog X.w) h3 (typeOf (.ref a)) cls := fun A Q E s k q => wpAny_typeOf_ref (k _ _ he3) (by rw [hz3.1]; exact q)
    have meets := PySem.W.exm_one (M := model X.prog X.w) (J3.kIn) tyA hb1
    have asked : ∀ {Q : Value → Shared → Prop} {E : Value → Shared → Prop}, Q c { s' with heap := h3 } → wpAny (model X.prog X.w) (X.A.mark (some (.ref a))) (eval (.Name x np) X.env) Q E { s' with heap := h3 } := by
      intro Q E q
      obtain ⟨hg, hdbg, hm | ⟨hm, hv, hnn⟩⟩ := hc
      · exact ld_glob (X := X.suite a ((a, oe3) :: (X.pn ++ pins))) S3 hg hm q hdbg
      · exact ld_blt (X := X.suite a ((a, oe3) :: (X.pn ++ pins))) S3 hg hm hv q hnn hdbg
    refine asked (meets.here ?_)
    cases b with
    | true =>
      refine codeAny_handlers_suite_as (HandSPX.lands_againZ fl3 fun h4 fl4 up4 => ?_)
      have J4 : L2.Inv X pins σ' H' { s' with heap := h4 } := J.landed nb fl4.1 ((up.trans up3).trans up4) os ag
      obtain ⟨oe4, vs4, he4, hz4, hd4⟩ := fl4.there
      have S4 := J4.suite he4 hd4 na nL nF
      refine store_ok (X := X.suite a ((a, oe4) :: (X.pn ++ pins))) (v := .ref a) S4 hN hi (.inl hln) rfl (fun s5 S5 => ?_) (.inr hln)
      refine wpAny_mono ((hsu a oe4 cls d (X.pn ++ pins) hz4 ⟨_, hd4⟩).run [] s5 _ H' _ S5 (yes rfl a na)) ?_ (fun _ _ z => z.elim)
      intro f s6 hsp
      have leave : ∀ {σ6 : L2.St} {H6 : Hp} {Q : Shared → Prop}, L2.Inv (X.suite a ((a, oe4) :: (X.pn ++ pins))) [] σ6 H6 s6 →
          (∀ s7, L2.Inv X pins (σ6.set i none) H6 s7 → L2.Inv X pins (σ6.set i none) (upd H6 a (ExH cls d a)) s7 → Q s7) →
          wpAny (model X.prog X.w) X.A (do bindName X.env n .none; unbindBehindTheSuite X.env n pos') (fun _ s7 => Q s7) X.xe s6 := by
        intro σ6 H6 Q S6 hq
        obtain ⟨ga, fa, _⟩ := S6.pin (a, oe4) (List.mem_append_left _ List.mem_cons_self)
        have J6 : L2.Inv X ((a, oe4) :: pins) σ6 H6 s6 := (S6.unsuite ok).pins_of (pins' := (a, oe4) :: pins) fun p hp =>
          S6.pin p (List.mem_append_left _ (by
            rcases List.mem_cons.mp hp with e | e
            · rw [e]; exact List.mem_cons_self
            · exact List.mem_cons_of_mem _ (List.mem_append_right _ e)))
        refine gone_ok J6 hN hi hln fun s7 J7 => ?_
        obtain ⟨g7, f7, _, _, dc⟩ := J7.pin (a, oe4) (List.mem_append_right _ List.mem_cons_self)
        have K7 : L2.Inv X pins (σ6.set i none) H6 s7 := J7.pins_of fun p hp => J7.pin p (List.mem_append_right _ (List.mem_cons_of_mem _ hp))
        refine hq s7 K7 (track K7 f7 late nL ?_ pinsA (exH_ok g7 hz4 hd4))
        intro y cc e z
        obtain ⟨v, o, ho, hd⟩ := K7.cell y cc e
        rw [z, g7] at ho
        cases ho
        exact dc v hd
      cases f with
      | next =>
        obtain ⟨σ6, H6, S6, q6⟩ := hsp
        exact leave S6 fun s7 _ J7 => ⟨_, _, J7, q6⟩
      | brk =>
        obtain ⟨σ6, H6, S6, q6⟩ := hsp
        exact leave S6 fun s7 _ J7 => ⟨_, _, J7, q6⟩
      | cont =>
        obtain ⟨σ6, H6, S6, q6⟩ := hsp
        exact leave S6 fun s7 _ J7 => ⟨_, _, J7, q6⟩
      | ret u =>
        obtain ⟨v6, σ6, H6, S6, r6, q6⟩ := hsp
        exact leave S6 fun s7 J7 _ => ⟨_, _, _, J7, r6, q6⟩
    | false =>
      show wpAny _ X.A (handleBy (.ref a) X.env []) _ _ _
      refine wpAny_handleBy_nil ?_
      obtain ⟨k1, k2, k3, oe, vs, T, oT, tt, he, hz, hd, h1, hr⟩ := id fl3
      unfold PySem.passOn
      refine wpAny_bind (wpAny_field he hd h1 ?_)
      rw [if_neg (show ¬ ((Value.ref T == Value.none) = true) from by simp)]
      have fin : wpAny (model X.prog X.w) X.A (setFlight (.ref a) X.env.frame) (fun _ s4 => wpAny (model X.prog X.w) X.A (throw (.ref a) : Sem Flow) (SP X pins D) X.xe s4) X.xe { s' with heap := h3 } := by
        rw [hf]
        refine HandSPX.setFlight_upZ fl3 fun h4 fl4 up4 => wpAny_throw (tk _ _ ?_)
        exact ⟨a, B, sI, pins, σ', H', cls, d, rfl, J, nb, (up.trans up3).trans up4, .inr (.inr (by rw [hs]; exact fl4)), na, os, ag, no rfl⟩
      first
        | exact wpAny_bind (wpAny_pure (wpAny_bind fin))
        | exact wpAny_bind fin
  refine wpAny_mono ((hb (wKeep X.K c i ts Wout D) (X.pn ++ pins) after catch_ PassesOwn.looking).run [] s σ H D (I.toTry _) h) ?_ (fun e s1 he => he)
  intro f s1 hsp
  cases f with
  | next =>
    obtain ⟨σ', H', J', q⟩ := hsp
    exact wpAny_execs_nil ⟨σ', H', J'.ofTry ok, q⟩
  | brk =>
    obtain ⟨σ', H', J', q⟩ := hsp
    exact ⟨σ', H', J'.ofTry ok, q⟩
  | cont =>
    obtain ⟨σ', H', J', q⟩ := hsp
    exact ⟨σ', H', J'.ofTry ok, q⟩
  | ret u =>
    obtain ⟨v, σ', H', J', r, q⟩ := hsp
    exact ⟨v, σ', H', J'.ofTry ok, r, q⟩
end
/-! ### isinstance of a caught error, its fields -/
def rIsH (K : PySem.W.Frag) : List V → Hp → VK → Prop := fun xs H Q => ∃ (a C dx : Addr) (fs : List (Str × V)) (c : V) (u : Value) (b : Bool),
  xs = [.ref a, c] ∧ H a = some (ExH (.ref C) (some dx) a) ∧ H dx = some (.xd fs) ∧ IsC K C ∧ ClsV c u ∧ PySem.W.kitOne K (.ref C) u = some b ∧ Q (.bl b) H
section
variable {X : Cx}
theorem held_at {pins : List (Addr × Obj)} {σ : L2.St} {H : Hp} {s : Shared} {a C dx : Addr} {fs : List (Str × V)} (I : L2.Inv X pins σ H s) (ea : H a = some (ExH (.ref C) (some dx) a)) (ed : H dx = some (.xd fs)) :
    ∃ (oe : Obj) (od : Obj) (mA : Str → Option Value), PySem.W.InstAt s.heap a oe C (some od) ∧ (∀ name, PySem.W.lookIn name od = some (mA name)) ∧ ∀ f, RelO (fs.lookup f) (mA f) := by
  obtain ⟨⟨oe, vs, ho, hz, hd⟩, _, _⟩ := (show ObjOk X.prog X.w H s.heap a (ExH (.ref C) (some dx) a) from I.hok a _ ea)
  obtain ⟨mA, hns, rel⟩ := (show ObjOk X.prog X.w H s.heap dx (.xd fs) from I.hok dx _ ed)
  obtain ⟨od, hod, hl⟩ := lookIn_ns hns
  exact ⟨oe, od, mA, ⟨ho, hz.1, by unfold PySem.W.notCls; rw [hd] <;> rfl, by rw [hz.2]; exact hod⟩, hl, rel⟩
theorem call_isH : CallR X (.builtin "isinstance") (rIsH X.K) := by
  intro pins s σ H xs us Q I r h
  obtain ⟨a, C, dx, fs, c, u, b, rfl, ea, ed, T, kc, e, q⟩ := h
  obtain ⟨u1, u2, rfl, r1, r2⟩ := vals2 r
  cases kc.eq r2
  cases (show u1 = Value.ref a from r1)
  obtain ⟨oe, od, mA, J, _, _⟩ := held_at I ea ed
  exact PySem.W.kia_one (PySem.W.kitx_exc T.cl T.ga T.gt T.sub T.cls T.get T.tak T.mro) I.kIn J e (fun z => nomatch z) fun tk => ⟨.bl b, H, I.tok tk, rfl, q⟩
def tXh (K : PySem.W.Frag) (f : Str) (te : TE) : TE := fun σ H Q => te σ H fun x H1 => ∃ (a C dx : Addr) (fs : List (Str × V)) (v : V), x = .ref a ∧ XfC K C ∧ PySem.W.findIn K (.ref C) f = some none ∧
  H1 a = some (ExH (.ref C) (some dx) a) ∧ H1 dx = some (.xd fs) ∧ fs.lookup f = some v ∧ Q v H1
theorem pe_xh {e : Expr} {te : TE} {pos : Pos} {f : Str} (he : PE X e te) (hb : attributeBase e f X.env (eval e X.env) = eval e X.env := by rfl) : PE X (.Attribute e f pos) (tXh X.K f te) := by
  constructor
  intro pins s σ H Q I h
  refine attr_of hb (thn (he.run pins s σ H _ I h) ?_)
  rintro u s1 ⟨x, H1, I1, rx, a, C, dx, fs, v, rfl, T, no, ea, ed, l, q⟩
  cases (show u = Value.ref a from rx)
  obtain ⟨oe, od, mA, J, hl, rel⟩ := held_at I1 ea ed
  obtain ⟨u, hu, ru⟩ := RelO.some_of (v := v) (o := mA f) (by rw [← l]; exact rel f)
  exact HandSPX.exc_get I1.kIn J T.ga T.gg T.exC (PySem.W.findObj_own T.hdC no rfl (by rw [hl, hu])) (handed_of ru) ⟨v, H1, I1.tok _, ru, q⟩
end
end Wk
set_option Elab.async false
set_option linter.all false
set_option maxRecDepth 100000
set_option maxHeartbeats 4000000
/-! Error classes with def __init__(self, value): self.value = value, and what the top has left of them and of the module's defs. -/
namespace Wk
open PySem L2
def spInit (C : Addr) : Sp := fun vs H Q _ => ∃ (a : Addr) (v : V), vs = [.ref a, v] ∧ H a = some (exo a C none) ∧
  ∀ dx, H dx = none → dx ≠ a → Q .non (upd (upd H dx (exd dx [("value", v)])) a (exo a C (some dx)))
structure ClsT (K : PySem.W.Frag) (mg : Str → Option Value) (x : Str) (C fI : Addr) : Prop where
  g : mg x = some (.ref C)
  oex : OexC K C
  ini : PySem.W.findIn K (.ref C) "__init__" = some (some (.ref fI))
  ty : PySem.W.typeIn K (.ref fI) = some (.type "function")
  nov : PySem.W.findIn K (.ref C) "value" = some none
  isc : IsC K C
  xf : XfC K C
section
variable {P : Program} {w : World} {K : PySem.W.Frag} {mg : Str → Option Value} {base : Heap}
theorem ok_init {qual : Str} {st : Stmt} {f fI C : Addr} {fd : FuncData} {x : Str} (F : Fun K "__init__" qual st f fd) (S : FnScope ["self", "value"] ["self", "value"] (defScope st))
    (hb : ∃ q1 q2 q3 q4, defBody st = [.Assign [.Attribute (.Name "self" q1) "value" q2] (.Name "value" q3) q4])
    (hv : (defScope st).names = ([("self", .local), ("value", .local)] : List (Str × NameKind))) (T : ClsT K mg x C fI) : FnOk P w K mg base CX0 1 f fd ["self", "value"] (spInit C) := by
  obtain ⟨q1, q2, q3, q4, hb⟩ := hb
  refine F.ok S (fun vs H Q E h => ?_) (fun cdv A outer s H vs Q E hr h => ?_)
  · obtain ⟨a, v, rfl, _⟩ := h
    rfl
  · obtain ⟨a, v, rfl, ha, k⟩ := h
    rw [hb]
    refine ⟨_, pss_one (ps_ost (pe_var (i := 0) rfl ?_) (pe_var (i := 1) rfl ?_)), ?_⟩
    · left
      show (defScope st).names.lookup ("self" : Str) = some .local
      rw [hv]
      decide +kernel
    · left
      show (defScope st).names.lookup ("value" : Str) = some .local
      rw [hv]
      decide +kernel
    · exact ⟨_, rfl, _, rfl, a, C, rfl, T.oex, T.nov, .inl ⟨ha, fun dx n ne => k dx n ne⟩⟩
/-- one class with its __init__, as a caller needs it -/
structure ClsF (P : Program) (w : World) (K : PySem.W.Frag) (mg : Str → Option Value) (base : Heap) (x : Str) (C fI : Addr) (fd : FuncData) : Prop where
  t : ClsT K mg x C fI
  ok : FnOk P w K mg base CX0 1 fI fd ["self", "value"] (spInit C)
  b : Binds K fd ["self", "value"] []
/-- raise X(e) -/
theorem ps_raiseV {X : Cx} {W : WX} {x : Str} {C fI : Addr} {fd : FuncData} {e : Expr} {te : TE} {p pos pos2 : Pos} (F : ClsF X.prog X.w X.K X.mg X.base x C fI fd) (hr : Room 2 X.A) (hc : X.calm = true) (tk : Takes X W) (hg : Gl X x) (he : PE X e te)
    (hdb : (x == ("__debug__" : Str)) = false := by decide) (hs : starEach (e :: []) X.env = (false, eval e X.env) :: starEach [] X.env := by rfl) :
    PS X (.Raise (some (.Call (.Name x p) [e] [] pos)) none pos2) (fun _ σ H => tMkO C (spInit C) [] (tCons te tNil) σ H fun cls d H' => W cls d σ H') :=
  ps_raise hc tk (pmk_oex F.t.oex F.t.ini F.t.ty F.ok hr F.b .nil pass0 hg F.t.g (pa_cons he pa_nil hs) hdb hs)
/-- its reading: the error with a new dict that holds the value -/
theorem mk_read {C : Addr} {v : V} {H : Hp} {Q : XK} (k : ∀ d H', H d = none → Same H H' → H' d = some (.xd [("value", v)]) → Q (.ref C) (some d) H') :
    ([v] : List V).length ≤ 1000 ∧ ∀ a, H a = none → spInit C (.ref a :: ([v] ++ [])) (upd H a (exo a C none))
      (fun z H2 => z = .non ∧ ∃ (d : Addr) (fs : List (Str × V)), H2 a = some (exo a C (some d)) ∧ H2 d = some (exd d fs) ∧ H d = none ∧ Q (.ref C) (some d) (upd (del H2 a) d (.xd fs))) (fun _ _ _ => False) := by
  refine ⟨by show 1 ≤ 1000; decide, fun a na => ⟨a, v, rfl, upd_same, fun dx nx ne => ⟨rfl, dx, _, upd_same, by rw [upd_ne ne, upd_same], ?_, ?_⟩⟩⟩
  · rw [upd_ne ne] at nx
    exact nx
  · rw [upd_ne ne] at nx
    refine k dx _ nx (fun b o e => ?_) upd_same
    have ba : b ≠ a := ne_of_none e na
    have bx : b ≠ dx := ne_of_none e nx
    rw [upd_ne bx, del_ne ba, upd_ne ba, upd_ne bx, upd_ne ba]
    exact e
end
/-! ### what the top has written -/
def DefAt (K : PySem.W.Frag) (x : Str) (st : Stmt) (f : Addr) : Prop := PySem.W.nsIn K mainGlobals x = some (some (.ref f)) ∧
  (∃ (oc : Value) (od : Option Addr) (kV doc pm : Value) (an : Option Addr) (cdv ct : Value) (osl : Array (Option Value)),
    K.lookup f = some ⟨oc, od, .func (PySem.W.fnOf x x (defArgs st) (defBody st) (defScope st) .none kV doc pm an cdv ct), osl⟩ ∧ PySem.W.codeIn K cdv x = true) ∧ PySem.W.keepIn K (.ref f) = true
theorem def_at {K : PySem.W.Frag} {x : Str} {st : Stmt} {f : Addr} {oc : Value} {od : Option Addr} {kV doc pm : Value} {an : Option Addr} {cdv ct : Value} {osl : Array (Option Value)} (a : PySem.W.nsIn K mainGlobals x = some (some (.ref f)))
    (l : K.lookup f = some ⟨oc, od, .func (PySem.W.fnOf x x (defArgs st) (defBody st) (defScope st) .none kV doc pm an cdv ct), osl⟩) (c : PySem.W.codeIn K cdv x = true) (k : PySem.W.keepIn K (.ref f) = true) : DefAt K x st f :=
  ⟨a, ⟨_, _, _, _, _, _, _, _, _, l, c⟩, k⟩
structure ClsAt (K : PySem.W.Frag) (x q : Str) (st : Stmt) (C fI : Addr) : Prop where
  ns : PySem.W.nsIn K mainGlobals x = some (some (.ref C))
  obj : ∃ nm qn N bs bm sn sub ab col dd k0 k1 k2 k3 k5, K.lookup C = some (excClassObj nm qn C N bs bm true sn sub ab col dd k0 k1 k2 k3 k5 "ValueError.__new__") ∧ PySem.HandSPX.refsVE bm = true
  ini : PySem.W.findIn K (.ref C) "__init__" = some (some (.ref fI))
  ty : PySem.W.typeIn K (.ref fI) = some (.type "function")
  fn : ∃ (oc : Value) (od : Option Addr) (kV doc pm : Value) (an : Option Addr) (cdv ct : Value) (osl : Array (Option Value)),
    K.lookup fI = some ⟨oc, od, .func (PySem.W.fnOf "__init__" q (defArgs st) (defBody st) (defScope st) .none kV doc pm an cdv ct), osl⟩ ∧ PySem.W.codeIn K cdv q = true
  kI : PySem.W.keepIn K (.ref fI) = true
  sa : PySem.W.findIn K (.ref C) "__setattr__" = some (some (.builtin "object.__setattr__"))
  tyC : PySem.W.typeIn K (.ref C) = some (.type "type")
  kC : PySem.W.keepIn K (.ref C) = true
  hd : PySem.W.hasDictIn K C = true
  nv : PySem.W.findIn K (.ref C) "value" = some none
  is : IsC K C
theorem cls_at {K : PySem.W.Frag} {x q : Str} {st : Stmt} {C fI : Addr} {oc : Value} {od : Option Addr} {kV doc pm : Value} {an : Option Addr} {cdv ct : Value} {osl : Array (Option Value)}
    {nm qn : Str} {N : Addr} {bs bm : List Value} {sn : List Str} {sub : List Value} {ab : Bool} {col : Option Bool} {dd : Option Addr} {k0 k1 k2 k3 k5 : Option Value}
    (a : PySem.W.nsIn K mainGlobals x = some (some (.ref C))) (ob : K.lookup C = some (excClassObj nm qn C N bs bm true sn sub ab col dd k0 k1 k2 k3 k5 "ValueError.__new__")) (ve : PySem.HandSPX.refsVE bm = true)
    (ini : PySem.W.findIn K (.ref C) "__init__" = some (some (.ref fI))) (ty : PySem.W.typeIn K (.ref fI) = some (.type "function"))
    (l : K.lookup fI = some ⟨oc, od, .func (PySem.W.fnOf "__init__" q (defArgs st) (defBody st) (defScope st) .none kV doc pm an cdv ct), osl⟩) (co : PySem.W.codeIn K cdv q = true) (kI : PySem.W.keepIn K (.ref fI) = true)
    (sa : PySem.W.findIn K (.ref C) "__setattr__" = some (some (.builtin "object.__setattr__"))) (tyC : PySem.W.typeIn K (.ref C) = some (.type "type")) (kC : PySem.W.keepIn K (.ref C) = true) (hd : PySem.W.hasDictIn K C = true)
    (nv : PySem.W.findIn K (.ref C) "value" = some none) (is : IsC K C) : ClsAt K x q st C fI :=
  ⟨a, ⟨_, _, _, _, _, _, _, _, _, _, _, _, _, _, _, ob, ve⟩, ini, ty, ⟨_, _, _, _, _, _, _, _, _, l, co⟩, kI, sa, tyC, kC, hd, nv, is⟩
theorem ClsAt.t {K : PySem.W.Frag} {mg : Str → Option Value} {h : Heap} {x q : Str} {st : Stmt} {C fI : Addr} (A : ClsAt K x q st C fI) (X : K.In h) (G : h.Ns mainGlobals mg) : ClsT K mg x C fI where
  g := PySem.W.mg_of X G A.ns
  oex := ⟨A.obj, A.sa, A.is.sub, A.tyC, A.kC⟩
  ini := A.ini
  ty := A.ty
  nov := A.nv
  isc := A.is
  xf := ⟨A.is.ga, A.is.gt, A.is.sub, A.hd⟩
theorem ClsAt.f {P : Program} {w : World} {K : PySem.W.Frag} {mg : Str → Option Value} {h base : Heap} {x q : Str} {st : Stmt} {C fI : Addr} (A : ClsAt K x q st C fI) (X : K.In h) (G : h.Ns mainGlobals mg)
    (S : FnScope ["self", "value"] ["self", "value"] (defScope st)) (hb : ∃ q1 q2 q3 q4, defBody st = [.Assign [.Attribute (.Name "self" q1) "value" q2] (.Name "value" q3) q4])
    (hv : (defScope st).names = ([("self", .local), ("value", .local)] : List (Str × NameKind)))
    (b2 : ∀ (kV doc pm : Value) (an : Option Addr) (cdv ct : Value) (us : List Value), us.length = (["self", "value"] : List Str).length → bindArgs (PySem.W.fnOf "__init__" q (defArgs st) (defBody st) (defScope st) .none kV doc pm an cdv ct) ⟨us, []⟩ = pure ((["self", "value"] : List Str).zip us)) :
    ∃ fd : FuncData, ClsF P w K mg base x C fI fd := by
  obtain ⟨oc, od, kV, doc, pm, an, cdv, ct, osl, l, c⟩ := A.fn
  have Fm := fun_mk (st := st) l c A.kI
  exact ⟨_, A.t X G, ok_init Fm S hb hv (A.t X G), Fm.binds (ps := ["self", "value"]) b2⟩
/-- a def that another one calls: nothing leaves it -/
structure Def1 (P : Program) (w : World) (K : PySem.W.Frag) (mg : Str → Option Value) (base : Heap) (x : Str) (k : Nat) (f : Addr) (fd : FuncData) (ps : List Str) (sp : Sp) : Prop where
  ok : FnOk P w K mg base CX0 k f fd ps sp
  g : mg x = some (.ref f)
  k : PySem.W.keepIn K (.ref f) = true
  b : Binds K fd ps []
end Wk
set_option Elab.async false
set_option linter.all false
set_option maxRecDepth 100000
set_option maxHeartbeats 4000000
namespace LB
open PySem L2 Wk
/-! ### the text by places -/
def top (i : Nat) : Stmt := PySem.Challenge.pw_wordorder_k34_patterns_matched.main.body.getD i (.Pass ⟨0, 0, 0, 0⟩)
abbrev sWall : Stmt := top 0
abbrev cOrderError : Stmt := top 2
abbrev cInvalidTable : Stmt := top 3
abbrev cInvalidNumber : Stmt := top 4
abbrev sIsWord : Stmt := top 9
abbrev sCheck : Stmt := top 10
abbrev sLimit : Stmt := top 11
abbrev sTopOf : Stmt := top 12
abbrev sCheckNum : Stmt := top 14
abbrev sSpelled : Stmt := top 15
abbrev sGroupsOf : Stmt := top 16
abbrev sGroupWords : Stmt := top 17
abbrev cReader : Stmt := top 19
abbrev sFits : Stmt := top 20
abbrev sTidied : Stmt := top 21
abbrev sPlacesOf : Stmt := top 22
abbrev sPool : Stmt := top 24
abbrev sDraw : Stmt := top 25
abbrev sEnglish : Stmt := top 26
abbrev sShort : Stmt := top 27
abbrev sLonger : Stmt := top 28
abbrev sBook : Stmt := top 29
abbrev sPower : Stmt := top 30
abbrev sWords : Stmt := top 31
abbrev sValue : Stmt := top 32
abbrev sMatched : Stmt := top 33
abbrev sWanted : Stmt := top 34
abbrev sRight : Stmt := top 35
abbrev sLaw : Stmt := top 36
end LB
set_option Elab.async false
set_option linter.all false
set_option maxRecDepth 100000
set_option maxHeartbeats 4000000
/-! Patterns: the mathematics. -/
namespace LB
open PySem L2 Wk
/-- an item of a pattern: none is a blank, the empty text a gap -/
abbrev It := Option Str
abbrev gp : It := some ("" : Str)
def isGap (x : It) : Bool := x == gp
def takesW (x : It) (w : Str) : Bool := x == none || (x == some w && !isGap x)
/-- from the ends of the words that the items so far fit, those with one item more -/
def stp (ws : List Str) (x : It) (S : Nat → Prop) : Nat → Prop := fun e =>
  if isGap x = true then e ≤ ws.length ∧ ∃ j, j ≤ e ∧ S j else ∃ j w, e = j + 1 ∧ S j ∧ ws[j]? = some w ∧ takesW x w = true
def mts (ws : List Str) (p : List It) : Nat → Prop := p.foldl (fun S x => stp ws x S) (fun e => e = 0)
theorem mts_snoc (ws : List Str) (p : List It) (x : It) : mts ws (p ++ [x]) = stp ws x (mts ws p) := by
  unfold mts
  rw [List.foldl_append]
  rfl
theorem mts_app (ws : List Str) (p q : List It) : mts ws (p ++ q) = q.foldl (fun S x => stp ws x S) (mts ws p) := by
  unfold mts
  rw [List.foldl_append]
theorem mts_le (ws : List Str) (p : List It) : ∀ e, mts ws p e → e ≤ ws.length := by
  have key : ∀ (q : List It) (S : Nat → Prop), (∀ e, S e → e ≤ ws.length) → ∀ e, q.foldl (fun S x => stp ws x S) S e → e ≤ ws.length := by
    intro q
    induction q with
    | nil => exact fun S h => h
    | cons x q ih =>
      intro S h e he
      refine ih (stp ws x S) (fun e he => ?_) e he
      unfold stp at he
      by_cases c : isGap x = true
      · rw [if_pos c] at he
        exact he.1
      · rw [if_neg c] at he
        obtain ⟨j, w, rfl, _, hw, _⟩ := he
        exact (List.getElem?_eq_some_iff.mp hw).1
  exact key p _ (fun e he => by rw [he]; exact Nat.zero_le _)
theorem gap_gap (ws : List Str) {x : It} (h : isGap x = true) (S : Nat → Prop) : stp ws x (stp ws x S) = stp ws x S := by
  funext e
  unfold stp
  rw [if_pos h, if_pos h]
  refine propext ⟨?_, ?_⟩
  · rintro ⟨a, j, jl, hj⟩
    rw [if_pos h] at hj
    obtain ⟨_, i, il, hs⟩ := hj
    exact ⟨a, i, by omega, hs⟩
  · rintro ⟨a, j, jl, hs⟩
    exact ⟨a, e, Nat.le_refl _, by rw [if_pos h]; exact ⟨a, j, jl, hs⟩⟩
theorem gap_blank (ws : List Str) {x : It} (h : isGap x = true) (S : Nat → Prop) : stp ws x (stp ws none S) = stp ws none (stp ws x S) := by
  funext e
  unfold stp
  rw [if_pos h, if_neg (by decide)]
  refine propext ⟨?_, ?_⟩
  · rintro ⟨a, j, jl, hj⟩
    rw [if_neg (by decide)] at hj
    obtain ⟨i, w, rfl, hs, hw, _⟩ := hj
    have il := (List.getElem?_eq_some_iff.mp hw).1
    obtain ⟨w', hw'⟩ : ∃ w', ws[e - 1]? = some w' := ⟨_, List.getElem?_eq_getElem (by omega)⟩
    refine ⟨e - 1, w', by omega, ?_, hw', rfl⟩
    rw [if_pos h]
    exact ⟨by omega, i, by omega, hs⟩
  · rintro ⟨j, w, rfl, hj, hw, _⟩
    rw [if_pos h] at hj
    obtain ⟨a, i, il, hs⟩ := hj
    have jl := (List.getElem?_eq_some_iff.mp hw).1
    obtain ⟨w', hw'⟩ : ∃ w', ws[i]? = some w' := ⟨_, List.getElem?_eq_getElem (by omega)⟩
    refine ⟨by omega, i + 1, by omega, ?_⟩
    rw [if_neg (by decide)]
    exact ⟨i, w', rfl, hs, hw', rfl⟩
theorem gap_blanks (ws : List Str) {x : It} (h : isGap x = true) : ∀ (b : Nat) (S : Nat → Prop), stp ws x ((List.replicate b none).foldl (fun S x => stp ws x S) S) = (List.replicate b none).foldl (fun S x => stp ws x S) (stp ws x S)
  | 0, S => rfl
  | b + 1, S => by
    rw [List.replicate_succ, List.foldl_cons, List.foldl_cons, gap_blanks ws h b, gap_blank ws h]
/-- what _tidied does item by item -/
def tidS (s : List It × Nat) (x : It) : List It × Nat :=
  if x = none then (s.1, s.2 + 1) else if isGap x = true then (if s.1.getLast? = some gp then s else (s.1 ++ [x], s.2)) else (s.1 ++ (List.replicate s.2 none ++ [x]), 0)
def tidW (p : List It) : List It × Nat := p.foldl tidS ([], 0)
def outT (s : List It × Nat) : List It := s.1 ++ List.replicate s.2 none
def tid (p : List It) : List It := outT (tidW p)
theorem tid_mts (ws : List Str) (p : List It) : mts ws (tid p) = mts ws p := by
  have key : ∀ (q : List It) (s : List It × Nat), mts ws (outT (q.foldl tidS s)) = q.foldl (fun S x => stp ws x S) (mts ws (outT s)) := by
    intro q
    induction q with
    | nil => intro s; rfl
    | cons x q ih =>
      intro s
      rw [List.foldl_cons, List.foldl_cons, ih]
      congr 1
      unfold tidS
      by_cases hn : x = none
      · rw [if_pos hn, hn]
        unfold outT
        rw [← mts_snoc, List.append_assoc, ← List.replicate_succ']
      rw [if_neg hn]
      by_cases hg : isGap x = true
      · rw [if_pos hg]
        by_cases hl : s.1.getLast? = some gp
        · rw [if_pos hl]
          unfold outT
          rw [mts_app, gap_blanks ws hg]
          congr 1
          obtain ⟨ys, e⟩ := List.getLast?_eq_some_iff.mp hl
          have hx : x = gp := eq_of_beq hg
          rw [e, mts_snoc, hx, gap_gap ws rfl]
        · rw [if_neg hl]
          have e1 : mts ws (outT (s.1 ++ [x], s.2)) = (List.replicate s.2 none).foldl (fun S x => stp ws x S) (stp ws x (mts ws s.1)) := by
            show mts ws ((s.1 ++ [x]) ++ List.replicate s.2 none) = _
            rw [mts_app, mts_snoc]
          have e2 : mts ws (outT s) = (List.replicate s.2 none).foldl (fun S x => stp ws x S) (mts ws s.1) := mts_app ws _ _
          rw [e1, e2, gap_blanks ws hg]
      · rw [if_neg hg]
        unfold outT
        show mts ws ((s.1 ++ (List.replicate s.2 none ++ [x])) ++ List.replicate 0 none) = _
        rw [← mts_snoc, List.replicate_zero, List.append_nil, List.append_assoc]
  have := key p ([], 0)
  exact this
/-- no two gaps side by side -/
def NoGG (p : List It) : Prop := ∀ k, ¬ (p[k]? = some gp ∧ p[k + 1]? = some gp)
theorem noGG_snoc {p : List It} {x : It} (h : NoGG p) (n : x = gp → p.getLast? ≠ some gp) : NoGG (p ++ [x]) := by
  rintro k ⟨a, b⟩
  rcases Nat.lt_trichotomy (k + 1) p.length with c | c | c
  · rw [List.getElem?_append_left (by omega)] at a
    rw [List.getElem?_append_left c] at b
    exact h k ⟨a, b⟩
  · rw [List.getElem?_append_left (by omega)] at a
    rw [List.getElem?_append_right (by omega), show k + 1 - p.length = 0 by omega] at b
    refine n (Option.some.inj b) ?_
    rw [List.getLast?_eq_getElem?, show p.length - 1 = k by omega]
    exact a
  · have l := (List.getElem?_eq_some_iff.mp b).1
    rw [List.length_append] at l
    have : [x].length = 1 := rfl
    omega
theorem noGG_app {p : List It} (h : NoGG p) : ∀ b, NoGG (p ++ List.replicate b none)
  | 0 => by
    rw [List.replicate_zero, List.append_nil]
    exact h
  | b + 1 => by
    rw [List.replicate_succ', ← List.append_assoc]
    exact noGG_snoc (noGG_app h b) fun z => by cases z
theorem tidW_gg (p : List It) : NoGG (tidW p).1 := by
  have key : ∀ (q : List It) (s : List It × Nat), NoGG s.1 → NoGG (q.foldl tidS s).1 := by
    intro q
    induction q with
    | nil => exact fun s h => h
    | cons x q ih =>
      intro s h
      refine ih _ ?_
      unfold tidS
      by_cases hn : x = none
      · rw [if_pos hn]
        exact h
      rw [if_neg hn]
      by_cases hg : isGap x = true
      · rw [if_pos hg]
        by_cases hl : s.1.getLast? = some gp
        · rw [if_pos hl]
          exact h
        · rw [if_neg hl]
          exact noGG_snoc h fun _ => hl
      · rw [if_neg hg]
        show NoGG (s.1 ++ (List.replicate s.2 none ++ [x]))
        rw [← List.append_assoc]
        refine noGG_snoc (noGG_app h _) fun z => ?_
        rw [z] at hg
        exact absurd rfl hg
  exact key p ([], 0) fun k h => by simp at h
theorem tid_gg (p : List It) : NoGG (tid p) := noGG_app (tidW_gg p) _
theorem tidW_len (p : List It) : (tidW p).1.length + (tidW p).2 ≤ p.length := by
  have key : ∀ (q : List It) (s : List It × Nat), (q.foldl tidS s).1.length + (q.foldl tidS s).2 ≤ s.1.length + s.2 + q.length := by
    intro q
    induction q with
    | nil => exact fun s => Nat.le_refl _
    | cons x q ih =>
      intro s
      rw [List.foldl_cons]
      have h := ih (tidS s x)
      have g : (tidS s x).1.length + (tidS s x).2 ≤ s.1.length + s.2 + 1 := by
        unfold tidS
        split
        · exact Nat.le_refl _
        split
        · split
          · omega
          · show (s.1 ++ [x]).length + s.2 ≤ _
            rw [List.length_append]
            show s.1.length + 1 + s.2 ≤ _
            omega
        · show (s.1 ++ (List.replicate s.2 none ++ [x])).length + 0 ≤ _
          rw [List.length_append, List.length_append, List.length_replicate]
          exact Nat.le_refl _
      rw [List.length_cons]
      omega
  have h := key p ([], 0)
  have e : ([] : List It).length + 0 + p.length = p.length := by simp
  exact Nat.le_trans h (Nat.le_of_eq e)
theorem tid_len (p : List It) : (tid p).length ≤ p.length := by
  unfold tid outT
  rw [List.length_append, List.length_replicate]
  exact tidW_len p
/-- the places at which the words so far may stand: before a gap, those that it has swallowed too -/
def plcB (ws : List Str) (P : List It) (k j : Nat) : Prop := if P[k]? = some gp then mts ws (P.take (k + 1)) j else mts ws (P.take k) j
theorem take_snoc {P : List It} {k : Nat} {x : It} (h : P[k]? = some x) : P.take (k + 1) = P.take k ++ [x] := by
  rw [List.take_add_one, h]
  rfl
/-- before the first word -/
theorem plcB_zero {ws : List Str} {P : List It} (g : NoGG P) {k : Nat} (hk : k ≤ P.length) : plcB ws P k 0 ↔ k = 0 ∨ (k = 1 ∧ P[0]? = some gp) := by
  have z : ∀ k, k ≤ P.length → (mts ws (P.take k) 0 ↔ k = 0 ∨ (k = 1 ∧ P[0]? = some gp)) := by
    intro k
    induction k with
    | zero =>
      intro _
      rw [List.take_zero]
      exact ⟨fun _ => .inl rfl, fun _ => rfl⟩
    | succ k ih =>
      intro hk
      obtain ⟨x, hx⟩ : ∃ x, P[k]? = some x := ⟨_, List.getElem?_eq_getElem (by omega)⟩
      rw [take_snoc hx, mts_snoc]
      unfold stp
      by_cases hg : isGap x = true
      · have ex : x = gp := eq_of_beq hg
        rw [if_pos hg]
        constructor
        · rintro ⟨_, j, jl, hj⟩
          obtain rfl : j = 0 := by omega
          rcases (ih (by omega)).mp hj with rfl | ⟨rfl, h0⟩
          · exact .inr ⟨rfl, by rw [hx, ex]⟩
          · exact absurd ⟨h0, by rw [hx, ex]⟩ (g 0)
        · rintro (h | ⟨h, h0⟩)
          · omega
          · obtain rfl : k = 0 := by omega
            exact ⟨Nat.zero_le _, 0, Nat.le_refl _, (ih (by omega)).mpr (.inl rfl)⟩
      · rw [if_neg hg]
        constructor
        · rintro ⟨j, w, e, _⟩
          omega
        · rintro (h | ⟨h, h0⟩)
          · omega
          · obtain rfl : k = 0 := by omega
            rw [hx] at h0
            have := Option.some.inj h0
            rw [this] at hg
            exact absurd rfl hg
  unfold plcB
  by_cases h : P[k]? = some gp
  · rw [if_pos h]
    have kl := (List.getElem?_eq_some_iff.mp h).1
    rw [z (k + 1) (by omega)]
    constructor
    · rintro (a | ⟨a, _⟩)
      · omega
      · exact .inl (by omega)
    · rintro (rfl | ⟨rfl, h0⟩)
      · exact .inr ⟨rfl, h⟩
      · exact absurd ⟨h0, h⟩ (g 0)
  · rw [if_neg h]
    exact z k hk
/-- one word more -/
theorem plcB_succ {ws : List Str} {P : List It} (g : NoGG P) {j : Nat} {w : Str} (hw : ws[j]? = some w) {k : Nat} (hk : k ≤ P.length) :
    plcB ws P k (j + 1) ↔ ((∃ i x, k = i + 1 ∧ plcB ws P i j ∧ P[i]? = some x ∧ takesW x w = true) ∨ (plcB ws P k j ∧ P[k]? = some gp)) ∨
      ∃ i, k = i + 1 ∧ P[i]? = some gp ∧ ((∃ h x, i = h + 1 ∧ plcB ws P h j ∧ P[h]? = some x ∧ takesW x w = true) ∨ plcB ws P i j) := by
  have jl := (List.getElem?_eq_some_iff.mp hw).1
  -- what the items up to a place that ends in no gap give
  have A : ∀ {i : Nat} {x : It}, P[i]? = some x → isGap x = false → (mts ws (P.take (i + 1)) (j + 1) ↔ takesW x w = true ∧ plcB ws P i j) := by
    intro i x hx hg
    have ne : P[i]? ≠ some gp := fun z => by
      rw [hx] at z
      have := Option.some.inj z
      rw [this] at hg
      exact absurd hg (by decide)
    rw [take_snoc hx, mts_snoc]
    unfold stp plcB
    rw [if_neg (by rw [hg]; exact Bool.false_ne_true), if_neg ne]
    constructor
    · rintro ⟨j', w', e, hs, hw', t⟩
      obtain rfl : j' = j := by omega
      rw [hw] at hw'
      cases hw'
      exact ⟨t, hs⟩
    · rintro ⟨t, hs⟩
      exact ⟨j, w, rfl, hs, hw, t⟩
  have G : ∀ {i : Nat}, P[i]? = some gp → (mts ws (P.take (i + 1)) (j + 1) ↔ mts ws (P.take i) (j + 1) ∨ plcB ws P i j) := by
    intro i hi
    unfold plcB
    rw [if_pos hi, take_snoc hi, mts_snoc]
    unfold stp
    rw [if_pos (show isGap gp = true by decide), if_pos (show isGap gp = true by decide)]
    constructor
    · rintro ⟨a, i', il, hs⟩
      rcases Nat.lt_or_ge i' (j + 1) with c | c
      · exact .inr ⟨by omega, i', by omega, hs⟩
      · obtain rfl : i' = j + 1 := by omega
        exact .inl hs
    · rintro (hs | ⟨a, i', il, hs⟩)
      · exact ⟨by omega, j + 1, Nat.le_refl _, hs⟩
      · exact ⟨by omega, i', by omega, hs⟩
  have Z : ¬ mts ws (P.take 0) (j + 1) := by
    rw [List.take_zero]
    intro h
    have h : j + 1 = 0 := h
    omega
  have notT : takesW gp w = false := by
    unfold takesW
    rw [show isGap gp = true from rfl]
    simp
  -- a place before which no gap stands
  have N : ∀ {k : Nat}, k ≤ P.length → (∀ i, k = i + 1 → P[i]? ≠ some gp) → (mts ws (P.take k) (j + 1) ↔ ∃ i x, k = i + 1 ∧ plcB ws P i j ∧ P[i]? = some x ∧ takesW x w = true) := by
    intro k hk hn
    cases k with
    | zero => exact ⟨fun h => absurd h Z, fun ⟨i, x, e, _⟩ => by omega⟩
    | succ i =>
      obtain ⟨x, hx⟩ : ∃ x, P[i]? = some x := ⟨_, List.getElem?_eq_getElem (by omega)⟩
      have hg : isGap x = false := by
        cases c : isGap x with
        | false => rfl
        | true =>
          have ex : x = gp := eq_of_beq c
          exact absurd (by rw [hx, ex]) (hn i rfl)
      rw [A hx hg]
      constructor
      · rintro ⟨t, b⟩
        exact ⟨i, x, rfl, b, hx, t⟩
      · rintro ⟨i', x', e, b, hx', t⟩
        obtain rfl : i' = i := by omega
        rw [hx] at hx'
        cases hx'
        exact ⟨t, b⟩
  by_cases hgk : P[k]? = some gp
  · -- before a gap
    have hn : ∀ i, k = i + 1 → P[i]? ≠ some gp := fun i e z => g i ⟨z, e ▸ hgk⟩
    have e1 : plcB ws P k (j + 1) ↔ mts ws (P.take (k + 1)) (j + 1) := by
      unfold plcB
      rw [if_pos hgk]
    rw [e1, G hgk, N hk hn]
    constructor
    · rintro (h | h)
      · exact .inl (.inl h)
      · exact .inl (.inr ⟨h, hgk⟩)
    · rintro ((h | ⟨h, _⟩) | ⟨i, e, hi, _⟩)
      · exact .inl h
      · exact .inr h
      · exact absurd hi (hn i e)
  · have e1 : plcB ws P k (j + 1) ↔ mts ws (P.take k) (j + 1) := by
      unfold plcB
      rw [if_neg hgk]
    rw [e1]
    by_cases hb : ∃ i, k = i + 1 ∧ P[i]? = some gp
    · obtain ⟨i, rfl, hi⟩ := hb
      have hn : ∀ h, i = h + 1 → P[h]? ≠ some gp := fun h e z => g h ⟨z, e ▸ hi⟩
      rw [G hi, N (by omega) hn]
      constructor
      · rintro (h | h)
        · exact .inr ⟨i, rfl, hi, .inl h⟩
        · exact .inr ⟨i, rfl, hi, .inr h⟩
      · rintro ((⟨i', x, e, _, hx, t⟩ | ⟨_, h⟩) | ⟨i', e, _, h⟩)
        · obtain rfl : i = i' := by omega
          rw [hi] at hx
          cases hx
          rw [notT] at t
          cases t
        · exact absurd h hgk
        · obtain rfl : i = i' := by omega
          exact h
    · rw [N hk fun i e z => hb ⟨i, e, z⟩]
      constructor
      · exact fun h => .inl (.inl h)
      · rintro ((h | ⟨_, h⟩) | ⟨i, e, h, _⟩)
        · exact h
        · exact absurd h hgk
        · exact absurd ⟨i, e, h⟩ hb
/-- behind all -/
theorem plcB_end (ws : List Str) (P : List It) (j : Nat) : plcB ws P P.length j ↔ mts ws P j := by
  unfold plcB
  rw [if_neg (by rw [List.getElem?_eq_none (Nat.le_refl _)]; exact fun z => by cases z), List.take_length]
end LB
set_option Elab.async false
set_option linter.all false
set_option maxRecDepth 100000
set_option maxHeartbeats 4000000
/-! Family B: the source of draws. -/
namespace LB
open PySem L2 Wk
/-! ### powers of greater numbers -/
def CPowB (i j : Int) : Prop := 0 ≤ j ∧ (Builtin.Int.intBits i : Int) * j ≤ 2 ^ 27
theorem op_powB {X : Cx} : OpR X (binaryOp .Pow) (rI CPowB fun i j => .int (i ^ j.toNat)) := opI fun _ _ _ _ _ _ _ hc q => PyProof.Rows.pow_int hc.1 hc.2 q
theorem bits_le {i : Int} {a : Nat} (h : i.natAbs < 2 ^ a) (h0 : 0 < a) : Builtin.Int.intBits i ≤ a := by
  have z := PySem.Flt.log2_lt_of h0 h
  unfold Builtin.Int.intBits
  split <;> omega
theorem cube_ok {i : Int} (h : i.natAbs < 2 ^ 1000) : CPowB i 3 := by
  have z := bits_le h (by decide)
  exact ⟨by decide, by omega⟩
/-! ### rng -/
structure RngAt (H : Hp) (p : Addr) (d s c : Int) : Prop where
  at_ : H p = some (.lst [.int d, .int s, .int c])
  d0 : 0 ≤ d
  s0 : 0 ≤ s
  s1 : s < 2305843009213693951
  c0 : 0 ≤ c
def spRng (K : PySem.W.Frag) : Sp := fun vs H Q _ => ∃ (a : Addr) (ns : List Int), vs = [.ref a] ∧ SqL K H a (ns.map V.int) ∧ ns.length ≤ 63 ∧
  ∀ (p : Addr) (d s : Int) (H' : Hp), H p = none → RngAt H' p d s 0 → Same H H' → Q (.ref p) H'
/-- a draw below upper; the source alone changes, its counter by at most one -/
def spDraw : Sp := fun vs H Q _ => ∃ (p : Addr) (d s c upper : Int), vs = [.ref p, .int upper] ∧ RngAt H p d s c ∧ 0 < upper ∧ upper.natAbs < 2 ^ 1000 ∧ c < 2 ^ 30 ∧
  ∀ (r d' c' : Int) (H' : Hp), 0 ≤ r → r < upper → c' ≤ c + 1 → RngAt H' p d' s c' → (∀ q o, H q = some o → q ≠ p → H' q = some o) → Q (.int r) H'
/-- one great cell more: the digits stay below a power of two -/
theorem digits_step {d m : Int} {i N : Nat} (hN : N ≤ 2 ^ 200) (d0 : 0 ≤ d) (d1 : d.natAbs < 2 ^ (200 * i + 1)) (m0 : 0 ≤ m) (m1 : m < (N : Int)) : (d * (N : Int) + m).natAbs < 2 ^ (200 * (i + 1) + 1) := by
  obtain ⟨n, rfl⟩ : ∃ n : Nat, d = (n : Int) := ⟨d.toNat, by omega⟩
  obtain ⟨q, rfl⟩ : ∃ q : Nat, m = (q : Int) := ⟨m.toNat, by omega⟩
  have n1 : n < 2 ^ (200 * i + 1) := d1
  have q1 : q < N := by omega
  have e : ((n : Int) * (N : Int) + (q : Int)) = ((n * N + q : Nat) : Int) := by
    rw [Int.natCast_add, Int.natCast_mul]
  rw [e]
  show n * N + q < 2 ^ (200 * (i + 1) + 1)
  rw [show 200 * (i + 1) + 1 = 200 * i + 1 + 200 by omega, Nat.pow_add]
  have a2 : (n + 1) * N ≤ 2 ^ (200 * i + 1) * N := Nat.mul_le_mul_right _ n1
  have a3 : 2 ^ (200 * i + 1) * N ≤ 2 ^ (200 * i + 1) * 2 ^ 200 := Nat.mul_le_mul_left _ hN
  rw [Nat.succ_mul] at a2
  generalize 2 ^ (200 * i + 1) * 2 ^ 200 = Z at a3
  omega
section
variable {P : Program} {w : World} {K : PySem.W.Frag} {mg : Str → Option Value} {base : Heap}
end
end LB
set_option Elab.async false
set_option linter.all false
set_option maxRecDepth 100000
set_option maxHeartbeats 4000000
/-! Family B: tables of drawn words. -/
namespace LB
open PySem L2 Wk
/-! ### words -/
def GoodWord (x : Str) : Prop := 1 ≤ x.length ∧ x.length ≤ 20 ∧ ∀ c ∈ x.cps.toList, 97 ≤ c ∧ c ≤ 122
def goodB (x : Str) : Bool := decide (1 ≤ x.length) && (decide (x.length ≤ 20) && x.cps.toList.all fun c => decide (97 ≤ c) && decide (c ≤ 122))
theorem goodB_ok {x : Str} (h : goodB x = true) : GoodWord x := by
  unfold goodB at h
  simp only [Bool.and_eq_true, decide_eq_true_eq, List.all_eq_true] at h
  exact ⟨h.1, h.2.1, fun c hc => h.2.2 c hc⟩
/-- the words of a table, in its order: all different, each a word -/
structure GoodRow (ws : List Str) : Prop where
  nd : ws.Nodup
  ok : ∀ x ∈ ws, GoodWord x
theorem GoodRow.perm {ws us : List Str} (g : GoodRow ws) (h : List.Perm us ws) : GoodRow us := ⟨h.nodup_iff.mpr g.nd, fun x hx => g.ok x (h.mem_iff.mp hx)⟩
theorem GoodRow.left {ws us : List Str} (g : GoodRow (ws ++ us)) : GoodRow ws := ⟨(List.nodup_append.mp g.nd).1, fun x hx => g.ok x (List.mem_append_left _ hx)⟩
theorem erase_perm {α : Type} {l : List α} {i : Nat} {x : α} (h : l[i]? = some x) : List.Perm (x :: l.eraseIdx i) l := by
  obtain ⟨hi, e⟩ := List.getElem?_eq_some_iff.mp h
  have z := List.take_append_drop i l
  rw [List.drop_eq_getElem_cons hi, e] at z
  rw [List.eraseIdx_eq_take_drop_succ]
  have p : List.Perm (l.take i ++ x :: l.drop (i + 1)) (x :: (l.take i ++ l.drop (i + 1))) := List.perm_middle
  rw [z] at p
  exact p.symm
/-! ### _law_twice -/
def twice (ws : List Str) : List Str := ws.flatMap fun x => [x ++ "a", x ++ "b"]
def spTwice (K : PySem.W.Frag) : Sp := fun vs H Q _ => ∃ (a : Addr) (ws : List Str), vs = [.ref a] ∧ SqL K H a (ws.map V.str) ∧ ws.length ≤ 100 ∧ (∀ x ∈ ws, x.length ≤ 1000) ∧
  ∀ (p : Addr) (H' : Hp), H p = none → H' p = some (.lst ((twice ws).map V.str)) → Same H H' → Q (.ref p) H'
section
variable {P : Program} {w : World} {K : PySem.W.Frag} {mg : Str → Option Value} {base : Heap}
end
/-! ### _law_sheet -/
def pool0 : List Str := Txt.split ("zero one two three four five six seven eight nine ten eleven twelve thirteen fourteen fifteen" ++ " sixteen seventeen eighteen nineteen twenty thirty forty fifty sixty seventy eighty" ++ " ninety hundred") " "
def usual29 : List Str := ["zero", "one", "two", "three", "four", "five", "six", "seven", "eight", "nine", "ten", "eleven", "twelve", "thirteen", "fourteen", "fifteen", "sixteen", "seventeen", "eighteen", "nineteen",
  "twenty", "thirty", "forty", "fifty", "sixty", "seventy", "eighty", "ninety", "hundred"]
theorem pool0_is : pool0 = usual29 := by decide +kernel
def poolA : List Str := (usual29 ++ (["thousand", "mil", "milliard", "z", "thousandth", "aa", "hun", "sixt", "o", "ones", "tw"] : List Str)) ++ (["f", "fo", "fiv", "e", "ee", "eee", "qq", "qqq", "y"] : List Str)
def longer0 : List Str := ["a", "b"]
def longerN : Nat → List Str
  | 0 => longer0
  | n + 1 => twice (longerN n)
def poolN : Nat → List Str
  | 0 => []
  | n + 1 => poolN n ++ longerN n
theorem poolA_good : GoodRow poolA ∧ poolA.length = 49 := by
  have e : poolA.all goodB = true := by decide +kernel
  have n : poolA.Nodup := by decide +kernel
  have l : poolA.length = 49 := by decide +kernel
  exact ⟨⟨n, fun x hx => goodB_ok (List.all_eq_true.mp e x hx)⟩, l⟩
theorem poolB_good : GoodRow (poolN 5) ∧ (poolN 5).length = 62 := by
  have e : (poolN 5).all goodB = true := by decide +kernel
  have n : (poolN 5).Nodup := by decide +kernel
  have l : (poolN 5).length = 62 := by decide +kernel
  exact ⟨⟨n, fun x hx => goodB_ok (List.all_eq_true.mp e x hx)⟩, l⟩
theorem small5 : ∀ i : Fin 5, (poolN i.1).length + (longerN i.1).length ≤ 100 ∧ (longerN i.1).length ≤ 100 ∧ (longerN i.1).all (fun x => decide (x.length ≤ 1000)) = true := by decide +kernel
theorem cut_a {l : List Str} {k : Nat} (h : k ≤ l.length) : cutV (l.map V.str) none (some (k : Int)) = (l.take k).map V.str := by
  unfold cutV
  rw [HT.sIx_none, HT.sIx_nat, List.length_map, Nat.min_eq_left h, List.drop_zero, Nat.sub_zero, List.map_take]
theorem cut_b {l : List Str} {k j : Nat} (h : k ≤ l.length) (hj : j ≤ l.length) : cutV (l.map V.str) (some (k : Int)) (some (j : Int)) = ((l.drop k).take (j - k)).map V.str := by
  unfold cutV
  rw [HT.sIx_nat, HT.sIx_nat, List.length_map, Nat.min_eq_left h, Nat.min_eq_left hj, List.map_take, List.map_drop]
theorem cut_c {l : List Str} {k : Nat} (h : k ≤ l.length) : cutV (l.map V.str) (some (k : Int)) none = (l.drop k).map V.str := by
  unfold cutV
  rw [HT.sIx_nat, HT.sIx_none, List.length_map, Nat.min_eq_left h, ← List.map_drop, ← List.map_take, List.take_of_length_le (by rw [List.length_drop]; exact Nat.le_refl _)]
end LB
set_option Elab.async false
set_option linter.all false
set_option maxRecDepth 100000
set_option maxHeartbeats 4000000
/-! Family D: the pool of draws. -/
namespace LB
open PySem L2 Wk
structure RngAtD (H : Hp) (p : Addr) (d s c : Int) : Prop where
  at_ : H p = some (.lst [.int d, .int s, .int c])
  d0 : 0 ≤ d
  s0 : 0 ≤ s
  s1 : s < 2305844009213693951
  c0 : 0 ≤ c
theorem five_ok {i : Int} (h : i.natAbs < 2 ^ 1000) : CPowB i 5 := by
  have z := bits_le h (by decide)
  exact ⟨by decide, by omega⟩
def spPool (K : PySem.W.Frag) : Sp := fun vs H Q _ => ∃ (a : Addr) (ns : List Int) (i : Nat), vs = [.ref a, .int (i : Int)] ∧ SqL K H a (ns.map V.int) ∧ i ≤ 63 ∧
  ∀ (p : Addr) (d s : Int) (H' : Hp), H p = none → RngAtD H' p d s 0 → Same H H' → Q (.ref p) H'
/-- a draw below many; the pool alone changes, its counter by at most one -/
def spDrawD : Sp := fun vs H Q _ => ∃ (p : Addr) (d s c upper : Int), vs = [.ref p, .int upper] ∧ RngAtD H p d s c ∧ 0 < upper ∧ upper.natAbs < 2 ^ 1000 ∧ c < 2 ^ 30 ∧
  ∀ (r d' c' : Int) (H' : Hp), 0 ≤ r → r < upper → c' ≤ c + 1 → RngAtD H' p d' s c' → (∀ q o, H q = some o → q ≠ p → H' q = some o) → Q (.int r) H'
section
variable {P : Program} {w : World} {K : PySem.W.Frag} {mg : Str → Option Value} {base : Heap}
theorem scPool : FnScope ["script", "at", "cell"] ["script", "at"] (defScope sPool) := ⟨rfl, rfl, rfl, by decide +kernel, rfl, by decide +kernel, by decide +kernel⟩
theorem ok_pool {f : Addr} {fd : FuncData} (F : Fun K "_law_pool" "_law_pool" sPool f fd) (mL : mg "len" = none) (mX : mg "max" = none) (mA : mg "abs" = none) : FnOk P w K mg base CX0 1 f fd ["script", "at"] (spPool K) := by
  refine F.ok scPool (fun vs H Q E h => ?_) (fun cdv A outer s H vs Q E hr h => ?_)
  · obtain ⟨a, ns, i, rfl, _⟩ := h
    rfl
  · obtain ⟨a, ns, i, rfl, hS, hi, k⟩ := h
    refine ⟨_, pss_cons (ps_set (i := 2) scPool.nd rfl (.inl rfl) pe_int)
      (pss_mid (ps_if (pt_cmpR op_lt (pv 1) (pe_callB call_len_seq (by rfl) mL PySem.boot_len (pa_cons (pv 0) pa_nil)) (nomark _)) (pss_one (ps_set (i := 2) scPool.nd rfl (.inl rfl) (pe_ix ix_list (pv 0) (pv 1) (fun _ _ => rfl)))) pss_nil)
      (pss_one (ps_ret (pe_lst (pa_cons (pe_callB (call_max2 rfl) (by rfl) mX (by decide +kernel) (pa_cons pe_int (pa_cons (pe_op op_sub (pe_callB call_abs (by rfl) mA (by decide +kernel) (pa_cons (pv 2) pa_nil)) (pe_op op_pow pe_int pe_int)) pa_nil)))
        (pa_cons (pe_op op_add (pe_op op_mod (pv 2) pe_int) (pe_op op_mul pe_int (pe_op op_add (pv 1) pe_int))) (pa_cons pe_int pa_nil))))))), ?_⟩
    refine ⟨fun τ H2 => H2 = H ∧ ∃ z : Int, τ = [some (.ref a), some (.int (i : Int)), some (.int z)], ?_, ?_⟩
    · refine ⟨_, rfl, _, rfl, a, _, rfl, .inl hS, _, _, rfl, rfl, _, rfl, ite2 (fun c1 => ?_) (fun c1 => ?_)⟩
      · have c2 := of_decide_eq_true c1
        rw [List.length_map] at c2
        have c3 : i < ns.length := by omega
        exact ⟨_, rfl, _, rfl, a, _, _, _, rfl, rfl, hS, atI_nat (j := i) (v := .int ns[i]) (by rw [List.getElem?_map, List.getElem?_eq_getElem c3]; rfl), rfl, ns[i], rfl⟩
      · exact ⟨rfl, 0, rfl⟩
    rintro τ H2 ⟨rfl, z, rfl⟩
    have v0 : 0 ≤ z % 2305843009213693951 := Int.emod_nonneg _ (by decide)
    have v1 : z % 2305843009213693951 < 2305843009213693951 := Int.emod_lt_of_pos _ (by decide)
    refine ⟨_, rfl, _, rfl, _, _, rfl, rfl, ⟨by decide, by decide, by decide⟩, _, _, rfl, rfl, _, _, rfl, ?_⟩
    refine ⟨_, rfl, _, _, rfl, rfl, (by show (0 : Int) < 2305843009213693951; decide), _, rfl, _, _, rfl, rfl, _, _, rfl, rfl, .inl ⟨by decide, by decide⟩, _, _, rfl, rfl, by show 3 ≤ sizeLine; decide, fun p np => ?_⟩
    refine k p _ _ _ np ⟨upd_same, ?_, by omega, by omega, by decide⟩ fun b o e => ?_
    · split <;> omega
    · rw [upd_ne (ne_of_none e np)]
      exact e
theorem scDrawD : FnScope ["pool", "many", "drawn", "mixed"] ["pool", "many"] (defScope sDraw) := ⟨rfl, rfl, rfl, by decide +kernel, rfl, by decide +kernel, by decide +kernel⟩
theorem ok_drawD {f : Addr} {fd : FuncData} (F : Fun K "_law_draw" "_law_draw" sDraw f fd) : FnOk P w K mg base CX0 1 f fd ["pool", "many"] spDrawD := by
  refine F.ok scDrawD (fun vs H Q E h => ?_) (fun cdv A outer s H vs Q E hr h => ?_)
  · obtain ⟨p, d, s, c, u, rfl, _⟩ := h
    rfl
  · obtain ⟨p, d, sd, c, u, rfl, B, u0, u9, c30, k⟩ := h
    refine ⟨_, pss_cons (ps_if (pt_cmpR op_gt (pe_ix ix_list (pv 0) pe_int (fun _ _ => rfl)) pe_int (nomark _))
        (pss_cons (ps_set (i := 2) scDrawD.nd rfl (.inl rfl) (pe_op op_mod (pe_ix ix_list (pv 0) pe_int (fun _ _ => rfl)) (pv 1)))
        (pss_cons (ps_asg (pe_op op_fdivW (pe_ix ix_list (pv 0) pe_int (fun _ _ => rfl)) (pv 1)) (pg_sub (pv 0) pe_int set_list))
        (pss_one (ps_ret (pv 2))))) pss_nil)
      (pss_cons (ps_asg (pe_op op_add (pe_ix ix_list (pv 0) pe_int (fun _ _ => rfl)) pe_int) (pg_sub (pv 0) pe_int set_list))
      (pss_cons (ps_set (i := 3) scDrawD.nd rfl (.inl rfl) (pe_op op_mod (pe_op op_pow (pe_op op_add (pe_ix ix_list (pv 0) pe_int (fun _ _ => rfl)) (pe_op op_mul pe_int (pe_ix ix_list (pv 0) pe_int (fun _ _ => rfl)))) pe_int) pe_int))
      (pss_cons (ps_set (i := 3) scDrawD.nd rfl (.inl rfl) (pe_op op_mod (pe_op op_powB (pe_op op_add (pv 3) (pe_op op_mul pe_int (pe_ix ix_list (pv 0) pe_int (fun _ _ => rfl)))) pe_int) pe_int))
      (pss_one (ps_ret (pe_op op_mod (pe_op op_fdiv (pv 3) pe_int) (pv 1))))))), ?_⟩
    have a0 : atI [V.int d, V.int sd, V.int c] 0 = some (.int d) := rfl
    have a1 : ∀ e : Int, atI [V.int d, V.int sd, V.int e] 1 = some (.int sd) := fun _ => rfl
    have a2 : ∀ e : Int, atI [V.int d, V.int sd, V.int e] 2 = some (.int e) := fun _ => rfl
    have i0 : ixN [V.int d, V.int sd, V.int c].length 0 = some 0 := rfl
    have i2 : ixN [V.int d, V.int sd, V.int c].length 2 = some 2 := rfl
    refine ⟨_, rfl, _, _, _, _, rfl, rfl, SqL.of B.at_, a0, _, _, rfl, rfl, _, rfl, ?_⟩
    refine ite2 (fun c1 => ?_) (fun c1 => ?_)
    · refine ⟨_, rfl, _, _, _, _, rfl, rfl, SqL.of B.at_, a0, _, rfl, _, _, rfl, rfl, u0, ?_⟩
      refine ⟨_, rfl, _, _, _, _, rfl, rfl, SqL.of B.at_, a0, _, rfl, _, _, rfl, rfl, wide_div u0 u9 (by decide) (by decide), ?_⟩
      refine ⟨_, rfl, p, _, _, _, rfl, rfl, B.at_, i0, _, rfl, ?_⟩
      refine k (d % u) (d / u) c _ (Int.emod_nonneg _ (by omega)) (Int.emod_lt_of_pos _ u0) (by omega) ⟨upd_same, Int.ediv_nonneg B.d0 (by omega), B.s0, B.s1, B.c0⟩ fun q o e n => ?_
      rw [upd_ne n]
      exact e
    · have c0 := B.c0
      have s0 := B.s0
      have s1 := B.s1
      refine ⟨_, rfl, _, _, _, _, rfl, rfl, SqL.of B.at_, a2 c, _, _, rfl, rfl, _, rfl, p, _, _, _, rfl, rfl, B.at_, i2, ?_⟩
      have B2 : RngAtD (upd H p (.lst ([V.int d, V.int sd, V.int c].set 2 (V.int (c + 1))))) p d sd (c + 1) := ⟨upd_same, B.d0, B.s0, B.s1, by omega⟩
      have v0 : ∀ v : Int, 0 ≤ v % 162259276829213363391578010288127 := fun v => Int.emod_nonneg _ (by decide)
      have v1 : ∀ v : Int, v % 162259276829213363391578010288127 < 162259276829213363391578010288127 := fun v => Int.emod_lt_of_pos _ (by decide)
      refine ⟨_, rfl, _, _, _, _, rfl, rfl, SqL.of B2.at_, a1 _, _, rfl, _, _, _, _, rfl, rfl, SqL.of B2.at_, a2 _, _, _, rfl, rfl, .inl ⟨by decide, by decide⟩, _, _, rfl, rfl, _, _, rfl, rfl, ⟨by decide, by decide, by omega⟩, _, _, rfl, rfl, (by show (0 : Int) < 162259276829213363391578010288127; decide), ?_⟩
      have w0 := v0 ((sd + 15501043 * (c + 1)) ^ 3)
      have w1 := v1 ((sd + 15501043 * (c + 1)) ^ 3)
      refine ⟨_, rfl, _, rfl, _, _, _, _, rfl, rfl, SqL.of B2.at_, a2 _, _, _, rfl, rfl, .inl ⟨by decide, by decide⟩, _, _, rfl, rfl, _, _, rfl, rfl, five_ok ?_, _, _, rfl, rfl, (by show (0 : Int) < 170141183460469231731687303715884105727; decide), ?_⟩
      · show ((sd + 15501043 * (c + 1)) ^ 3 % 162259276829213363391578010288127 + 32460011 * (c + 1)).natAbs < 2 ^ 1000
        generalize (sd + 15501043 * (c + 1)) ^ 3 % 162259276829213363391578010288127 = v at w0 w1
        have big : (2 : Nat) ^ 110 ≤ 2 ^ 1000 := Nat.pow_le_pow_right (by decide) (by decide)
        refine Nat.lt_of_lt_of_le ?_ big
        omega
      · refine ⟨_, rfl, _, _, rfl, rfl, ⟨by decide, by decide⟩, _, rfl, _, _, rfl, rfl, u0, ?_⟩
        refine k _ d (c + 1) _ (Int.emod_nonneg _ (by omega)) (Int.emod_lt_of_pos _ u0) (by omega) B2 fun q o e n => ?_
        rw [upd_ne n]
        exact e
end
end LB
set_option Elab.async false
set_option linter.all false
set_option maxRecDepth 100000
set_option maxHeartbeats 4000000
namespace LB
open PySem L2 Wk
/-- a table of words stands in the heap -/
structure TabAt (H : Hp) (t : Addr) (ones tens : List Str) (hun : Str) (scales : List Str) (o te sc : Addr) : Prop where
  tup : H t = some (.tup [.ref o, .ref te, .str hun, .ref sc])
  lo : H o = some (.lst (ones.map V.str))
  lt : H te = some (.lst (tens.map V.str))
  ls : H sc = some (.lst (scales.map V.str))
def spSheet : Sp := fun vs H Q _ => ∃ (p : Addr) (d s c most : Int), vs = [.ref p, .int most] ∧ RngAt H p d s c ∧ 0 ≤ most ∧ most ≤ 20 ∧ c < 2 ^ 29 ∧
  ∀ (t o te sc : Addr) (ones tens : List Str) (hun : Str) (scales : List Str) (d' c' : Int) (H' : Hp), H t = none → H o = none → H te = none → H sc = none → o ≠ te → o ≠ sc → te ≠ sc → TabAt H' t ones tens hun scales o te sc →
    ones.length = 20 → tens.length = 8 → (scales.length : Int) ≤ most → GoodRow (ones ++ (tens ++ hun :: scales)) → RngAt H' p d' s c' → c' ≤ c + 100 → (∀ q o, H q = some o → q ≠ p → H' q = some o) → Q (.ref t) H'
theorem erase_map {α β : Type} {g : α → β} {l : List α} {k : Nat} : (l.map g).eraseIdx k = (l.eraseIdx k).map g := by
  rw [List.eraseIdx_eq_take_drop_succ, List.eraseIdx_eq_take_drop_succ, List.map_append, List.map_take, List.map_drop]
theorem seqIndex_nat {n k : Nat} (h : k < n) : seqIndex? (k : Int) n = some k := by
  have e := PySem.seqIndex_of (k := (k : Int)) (n := n) (by omega) (by omega)
  rw [Int.toNat_natCast] at e
  exact e
section
variable {P : Program} {w : World} {K : PySem.W.Frag} {mg : Str → Option Value} {base : Heap}
end
end LB
set_option Elab.async false
set_option linter.all false
set_option maxRecDepth 100000
set_option maxHeartbeats 4000000
/-! The program's own: is_word, check_table, limit, for valid tables. -/
namespace LB
open PySem L2 Wk
theorem chars : ∀ c : Fin 128, (Unicode.isAlpha c.1 && !(Unicode.isUpper c.1 || Unicode.isTitle c.1)) = (decide (97 ≤ c.1) && decide (c.1 ≤ 122)) ∧ (97 ≤ c.1 → c.1 ≤ 122 → Unicode.isLower c.1 = true) := by decide +kernel
theorem GoodWord.tests {x : Str} (g : GoodWord x) : Txt.isascii x = true ∧ Txt.isalpha x = true ∧ Txt.islower x = true := by
  obtain ⟨h1, h2, h3⟩ := g
  have low : ∀ c ∈ x.cps.toList, c < 128 := fun c hc => by have := h3 c hc; omega
  have len : x.length = x.cps.toList.length := by
    show x.cps.size = _
    rw [Array.length_toList]
  refine ⟨?_, ?_, ?_⟩
  · unfold Txt.isascii
    rw [Array.all_eq_true_iff_forall_mem]
    intro c hc
    exact decide_eq_true (low c (Array.mem_toList_iff.mpr hc))
  · unfold Txt.isalpha
    rw [Bool.and_eq_true]
    refine ⟨decide_eq_true (by omega), ?_⟩
    rw [Array.all_eq_true_iff_forall_mem]
    intro c hc
    have hm := Array.mem_toList_iff.mpr hc
    have z := (chars ⟨c, low c hm⟩).1
    have r := h3 c hm
    simp only [decide_eq_true r.1, decide_eq_true r.2, Bool.and_true, Bool.and_eq_true] at z
    exact z.1
  · unfold Txt.islower
    rw [Bool.and_eq_true]
    constructor
    · rw [← Array.any_toList, List.any_eq_true]
      obtain ⟨c, hc⟩ : ∃ c, c ∈ x.cps.toList := by
        cases e : x.cps.toList with
        | nil =>
          rw [len, e] at h1
          exact absurd h1 (by decide)
        | cons c r => exact ⟨c, List.mem_cons_self⟩
      exact ⟨c, hc, (chars ⟨c, low c hc⟩).2 (h3 c hc).1 (h3 c hc).2⟩
    · rw [Bool.not_eq_true', Array.any_eq_false]
      intro i hi
      have hm : x.cps[i] ∈ x.cps.toList := Array.mem_toList_iff.mpr (Array.getElem_mem hi)
      have z := (chars ⟨x.cps[i], low _ hm⟩).1
      have r := h3 _ hm
      simp only [decide_eq_true r.1, decide_eq_true r.2, Bool.and_true, Bool.and_eq_true, Bool.not_eq_true'] at z
      rw [z.2]
      exact Bool.false_ne_true
/-! ### is_word -/
def spIsWord : Sp := fun vs H Q _ => ∃ x : Str, vs = [.str x] ∧ GoodWord x ∧ Q (.bl true) H
/-- the constants of the module -/
structure TxtP (K : PySem.W.Frag) (mg : Str → Option Value) (E1 E2 : Addr) : Prop where
  len : mg "len" = none
  long : ∃ t, mg "LONGEST_WORD" = some (.int 20 t)
  g1 : mg "ENGLISH_ONES" = some (.ref E1)
  g2 : mg "ENGLISH_TENS" = some (.ref E2)
  e1 : ∃ xs : List V, xs.length = 20 ∧ ∀ H, SqT K H E1 xs
  e2 : ∃ xs : List V, xs.length = 8 ∧ ∀ H, SqT K H E2 xs
section
variable {P : Program} {w : World} {K : PySem.W.Frag} {mg : Str → Option Value} {base : Heap} {E1 E2 : Addr}
theorem scIsWord : FnScope ["text"] ["text"] (defScope sIsWord) := ⟨rfl, rfl, rfl, by decide +kernel, rfl, by decide +kernel, by decide +kernel⟩
theorem ok_isWord {f : Addr} {fd : FuncData} (F : Fun K "is_word" "is_word" sIsWord f fd) (T : TxtP K mg E1 E2) : FnOk P w K mg base CX0 1 f fd ["text"] spIsWord := by
  refine F.ok scIsWord (fun vs H Q E h => ?_) (fun cdv A outer s H vs Q E hr h => ?_)
  · obtain ⟨x, rfl, _⟩ := h
    rfl
  · obtain ⟨x, rfl, g, k⟩ := h
    obtain ⟨tk, mL⟩ := T.long
    obtain ⟨t1, t2, t3⟩ := g.tests
    refine ⟨_, pss_one (ps_ret (pe_and (pe_cmpR op_le (pe_callB call_len_str (by rfl) T.len PySem.boot_len (pa_cons (pv 0) pa_nil)) (pe_glob (v := .int 20) rfl mL ⟨_, rfl⟩) (nomark _))
      (pe_and (pe_m0 PySem.F.slot_str_isascii PySem.F.type_str_isascii mt_isascii (pv 0))
      (pe_and (pe_m0 PySem.F.slot_str_isalpha PySem.F.type_str_isalpha mt_isalpha (pv 0))
      (pe_one (pe_m0 PySem.F.slot_str_islower PySem.F.type_str_islower mt_islower (pv 0))))))), ?_⟩
    have big : 20 ≤ sizeLine := by decide
    have l2 : x.length ≤ 20 := g.2.1
    refine ⟨_, rfl, x, rfl, by omega, _, _, rfl, rfl, _, rfl, ?_⟩
    rw [decide_eq_true (show ((x.length : Nat) : Int) ≤ 20 by omega)]
    refine iteT ⟨_, rfl, ⟨_, rfl⟩, x, rfl, rfl, trivial, _, rfl, ?_⟩
    rw [t1]
    refine iteT ⟨_, rfl, ⟨_, rfl⟩, x, rfl, rfl, trivial, _, rfl, ?_⟩
    rw [t2]
    refine iteT ⟨_, rfl, ⟨_, rfl⟩, x, rfl, rfl, trivial, ?_⟩
    rw [t3]
    exact k
/-! ### check_table of a valid table -/
def spCheck : Sp := fun vs H Q _ => ∃ (t o te sc : Addr) (ones tens : List Str) (hun : Str) (scales : List Str), vs = [.ref t] ∧ TabAt H t ones tens hun scales o te sc ∧ ones.length = 20 ∧ tens.length = 8 ∧ scales.length ≤ 900 ∧
  GoodRow (ones ++ (tens ++ hun :: scales)) ∧ ∀ H', Same H H' → Q .non H'
def seenK (ws : List Str) : List (Key × V) := ws.map fun x => (Sum.inr x, V.bl true)
theorem seen_no {ws : List Str} {x : Str} (h : ¬ x ∈ ws) : valV (seenK ws) (Sum.inr x : Key) = none := by
  unfold valV seenK
  rw [List.find?_eq_none.mpr]
  · rfl
  · intro p hp
    obtain ⟨y, hy, rfl⟩ := List.mem_map.mp hp
    simp only [decide_eq_true_eq]
    intro e
    exact h (Sum.inr.inj e ▸ hy)
theorem not_before {α : Type} {ws : List α} {i : Nat} {x : α} (nd : ws.Nodup) (h : ws[i]? = some x) : ¬ x ∈ ws.take i := by
  obtain ⟨hi, e⟩ := List.getElem?_eq_some_iff.mp h
  intro m
  have z := List.take_append_drop i ws
  rw [List.drop_eq_getElem_cons hi, e] at z
  rw [← z] at nd
  exact (List.nodup_append.mp nd).2.2 x m x List.mem_cons_self rfl
theorem scCheck : FnScope ["table", "ones", "tens", "hundred", "scales", "seen", "word"] ["table"] (defScope sCheck) := ⟨rfl, rfl, rfl, by decide +kernel, rfl, by decide +kernel, by decide +kernel⟩
theorem ok_check {f fW : Addr} {fd dW : FuncData} (F : Fun K "check_table" "check_table" sCheck f fd) (T : TxtP K mg E1 E2)
    (GW : FnOk P w K mg base CX0 1 fW dW ["text"] spIsWord) (gW : mg "is_word" = some (.ref fW)) (kW : PySem.W.keepIn K (.ref fW) = true) (bW : Binds K dW ["text"] []) : FnOk P w K mg base CX0 2 f fd ["table"] spCheck := by
  refine F.ok scCheck (fun vs H Q E h => ?_) (fun cdv A outer s H vs Q E hr h => ?_)
  · obtain ⟨t, o, te, sc, ones, tens, hun, scales, rfl, _⟩ := h
    rfl
  · obtain ⟨t, o, te, sc, ones, tens, hun, scales, rfl, TA, l1, l2, l3, good, k⟩ := h
    obtain ⟨xs1, xl1, q1⟩ := T.e1
    obtain ⟨xs2, xl2, q2⟩ := T.e2
    have hu := hu_of hr
    refine ⟨_, pss_cons (ps_asg (pv 0) (pg_tup (by rfl) (pgs_cons (pg_name (i := 1) scCheck.nd rfl (.inl rfl)) (pgs_cons (pg_name (i := 2) scCheck.nd rfl (.inl rfl)) (pgs_cons (pg_name (i := 3) scCheck.nd rfl (.inl rfl)) (pgs_cons (pg_name (i := 4) scCheck.nd rfl (.inl rfl)) pgs_nil))))))
      (pss_cons (ps_if (PW.pt (pw_or (pt_cmpR op_ne (pe_callB call_len_seq (by rfl) T.len PySem.boot_len (pa_cons (pv 1) pa_nil)) (pe_callB call_len_seq (by rfl) T.len PySem.boot_len (pa_cons (pe_glob (v := .ref E1) rfl T.g1 rfl) pa_nil)) (nomark _))
          (pw_or1 (pt_cmpR op_ne (pe_callB call_len_seq (by rfl) T.len PySem.boot_len (pa_cons (pv 2) pa_nil)) (pe_callB call_len_seq (by rfl) T.len PySem.boot_len (pa_cons (pe_glob (v := .ref E2) rfl T.g2 rfl) pa_nil)) (nomark _)))))
        pss_never pss_nil)
      (pss_cons (ps_set (i := 5) scCheck.nd rfl (.inl rfl) pe_dnewK)
      (pss_one (ps_for PassesOwn.never rfl (pi_list (pe_lst (StX.pa_star (pv 1) (StX.pa_star (pv 2) (pa_cons (pv 3) (StX.pa_star (pv 4) pa_nil)))))) (pg_name (i := 6) scCheck.nd rfl (.inl rfl))
        (pss_cons (ps_if (PW.pt (pw_or (pt_cmp (pc_din hu (pv 6) (pv 5))) (pw_or1 (pt_not (pt_val (pe_call GW hr (by rfl) gW kW bW .nil pass0 (pa_cons (pv 6) pa_nil))))))) pss_never pss_nil)
        (pss_one (ps_dput hu (pv 5) (pv 6) pe_bl rfl))))))), ?_⟩
    refine ⟨_, rfl, t, _, rfl, SqT.of TA.tup, rfl, _, _, rfl, _, _, rfl, _, _, rfl, _, _, rfl, rfl, ?_⟩
    refine ⟨_, rfl, o, _, rfl, .inl (SqL.of TA.lo), E1, xs1, rfl, .inr (q1 _), rfl, _, rfl, ?_⟩
    rw [List.length_map, l1, xl1]
    refine iteNS rfl ⟨_, rfl, te, _, rfl, .inl (SqL.of TA.lt), E2, xs2, rfl, .inr (q2 _), rfl, _, rfl, ?_⟩
    rw [List.length_map, l2, xl2]
    refine iteNS rfl ?_
    intro e ne
    obtain ⟨row, hrow⟩ : ∃ row, row = ones ++ (tens ++ hun :: scales) := ⟨_, rfl⟩
    have rl : row.length ≤ 1000 := by
      rw [hrow, List.length_append, List.length_append, List.length_cons]
      omega
    have s1 : Same H (upd H e (.dK [])) := fun b u z => by
      rw [upd_ne (ne_of_none z ne)]
      exact z
    have eqs : ones.map V.str ++ (tens.map V.str ++ V.str hun :: (scales.map V.str ++ [])) = row.map V.str := by
      rw [hrow, List.append_nil, List.map_append, List.map_append, List.map_cons]
    refine ⟨_, rfl, o, _, rfl, .inr (SqL.of (s1 _ _ TA.lo)), _, rfl, te, _, rfl, .inr (SqL.of (s1 _ _ TA.lt)), _, rfl, _, rfl, sc, _, rfl, .inr (SqL.of (s1 _ _ TA.ls)), ?_, fun L nL => ?_⟩
    · rw [eqs, List.length_map]
      exact Nat.le_of_lt (small1000 rl)
    have Le : L ≠ e := fun z => by
      rw [z, upd_same] at nL
      cases nL
    have nLH : H L = none := by
      rw [upd_ne Le] at nL
      exact nL
    refine ⟨L, rfl, ⟨_, SqL.of upd_same⟩, for_list (K := K) (a := L) (xs := row.map V.str) (fun i σ H2 => ∃ x : Option V, σ = [some (.ref t), some (.ref o), some (.ref te), some (.str hun), some (.ref sc), some (.ref e), x] ∧
      H2 L = some (.lst (row.map V.str)) ∧ H2 e = some (.dK (seenK (row.take i))) ∧ Same H H2) ?_ ?_ ?_ ?_⟩
    · refine ⟨none, rfl, ?_, by rw [upd_ne Le.symm, upd_same]; rfl, fun b u z => ?_⟩
      · rw [upd_same]
        exact congrArg (fun z => some (HO.lst z)) eqs
      · rw [upd_ne (ne_of_none z nLH)]
        exact s1 b u z
    · rintro i σ H2 _ ⟨x, rfl, hL, _⟩
      exact SqL.of hL
    · rintro i y σ H2 hi ⟨x, rfl, hL, he, s2⟩
      obtain ⟨z, hz, rfl⟩ : ∃ z, row[i]? = some z ∧ y = V.str z := by
        rw [List.getElem?_map] at hi
        cases q : row[i]? with
        | none =>
          rw [q] at hi
          cases hi
        | some z =>
          rw [q] at hi
          exact ⟨z, rfl, (Option.some.inj hi).symm⟩
      have hm := List.mem_of_getElem? hz
      have il := (List.getElem?_eq_some_iff.mp hz).1
      have no := seen_no (not_before (by rw [hrow]; exact good.nd) hz)
      have gz : GoodWord z := good.ok z (by rw [← hrow]; exact hm)
      have dg := DGet.k (k := (Sum.inr z : Key)) he
      rw [no] at dg
      refine ⟨_, rfl, _, rfl, e, none, rfl, dg, _, rfl, iteF ?_⟩
      refine ⟨_, rfl, z, rfl, gz, true, rfl, iteF ?_⟩
      have sl : (seenK (row.take i)).length < sizeLine := by
        refine small1000 ?_
        unfold seenK
        rw [List.length_map, List.length_take]
        omega
      refine ⟨_, rfl, _, rfl, e, _, rfl, DPut.k (k := (Sum.inr z : Key)) (v := .bl true) he sl, ?_⟩
      have neL : e ≠ L := Le.symm
      refine ⟨_, rfl, by rw [upd_ne Le]; exact hL, ?_, fun b u q => ?_⟩
      · rw [upd_same, putK_new _ no, List.take_add_one, hz]
        unfold seenK
        rw [List.map_append]
        rfl
      · rw [upd_ne (ne_of_none q ne)]
        exact s2 b u q
    · rintro σ H2 ⟨x, rfl, hL, he, s2⟩
      exact k H2 s2
/-! ### limit -/
def limitOf (scales : List Str) : Int := 1000 * 1000 ^ scales.length
theorem limit_small (n : Nat) (h : n ≤ 901) : (1000 * 1000 ^ n : Int).natAbs < 2 ^ 10000 := by
  have e : (1000 * 1000 ^ n : Int) = ((1000 * 1000 ^ n : Nat) : Int) := by
    rw [Int.natCast_mul, Int.natCast_pow]
    rfl
  rw [e]
  show 1000 * 1000 ^ n < 2 ^ 10000
  have a : (1000 : Nat) ^ n ≤ (2 ^ 10) ^ n := Nat.pow_le_pow_left (by decide) n
  rw [← Nat.pow_mul] at a
  have b : (2 : Nat) ^ (10 * n) ≤ 2 ^ 9010 := Nat.pow_le_pow_right (by decide) (by omega)
  have c : (1000 : Nat) * 2 ^ 9010 ≤ 2 ^ 10 * 2 ^ 9010 := Nat.mul_le_mul_right _ (by decide)
  rw [← Nat.pow_add] at c
  have d : (2 : Nat) ^ 9020 < 2 ^ 10000 := Nat.pow_lt_pow_right (by decide) (by decide)
  have f : 1000 * 1000 ^ n ≤ 1000 * 2 ^ 9010 := Nat.mul_le_mul_left _ (Nat.le_trans a b)
  exact Nat.lt_of_le_of_lt (Nat.le_trans f c) d
/-- top_of: the limit of a table, without a check -/
def spTopOf : Sp := fun vs H Q _ => ∃ (t o te sc : Addr) (ones tens : List Str) (hun : Str) (scales : List Str), vs = [.ref t] ∧ TabAt H t ones tens hun scales o te sc ∧ scales.length ≤ 900 ∧ Q (.int (limitOf scales)) H
theorem scTopOf : FnScope ["table", "top", "_"] ["table"] (defScope sTopOf) := ⟨rfl, rfl, rfl, by decide +kernel, rfl, by decide +kernel, by decide +kernel⟩
theorem ok_topOf {f : Addr} {fd : FuncData} (F : Fun K "top_of" "top_of" sTopOf f fd) : FnOk P w K mg base CX0 1 f fd ["table"] spTopOf := by
  refine F.ok scTopOf (fun vs H Q E h => ?_) (fun cdv A outer s H vs Q E hr h => ?_)
  · obtain ⟨t, o, te, sc, ones, tens, hun, scales, rfl, _⟩ := h
    rfl
  · obtain ⟨t, o, te, sc, ones, tens, hun, scales, rfl, TA, l3, k⟩ := h
    refine ⟨_, pss_cons (ps_set (i := 1) scTopOf.nd rfl (.inl rfl) pe_int)
      (pss_cons (ps_for PassesOwn.never rfl (pi_list (pe_ix ix_tup (pv 0) pe_int (fun _ _ => rfl))) (pg_name (i := 2) scTopOf.nd rfl (.inl rfl))
        (pss_one (ps_set (i := 1) scTopOf.nd rfl (.inl rfl) (pe_op op_mulW (pv 1) pe_int))))
      (pss_one (ps_ret (pv 1)))), ?_⟩
    refine ⟨_, rfl, t, _, _, _, rfl, rfl, SqT.of TA.tup, (rfl : atI [V.ref o, V.ref te, V.str hun, V.ref sc] 3 = some (.ref sc)), sc, rfl, ⟨_, SqL.of TA.ls⟩, ?_⟩
    refine for_list (K := K) (a := sc) (xs := scales.map V.str) (fun i σ H2 => H2 = H ∧ ∃ x : Option V, σ = [some (.ref t), some (.int (1000 * 1000 ^ i)), x]) ⟨rfl, none, rfl⟩ ?_ ?_ ?_
    · rintro i σ H2 _ ⟨rfl, _⟩
      exact SqL.of TA.ls
    · rintro i y σ H2 hi ⟨rfl, x, rfl⟩
      have il : i < scales.length := by
        have z := (List.getElem?_eq_some_iff.mp hi).1
        rw [List.length_map] at z
        exact z
      refine ⟨_, rfl, _, _, rfl, rfl, wide_mul (limit_small i (by omega)) (show (1000 : Int).natAbs < 2 ^ 10 by decide) (by decide) (by decide) (by decide), rfl, some y, ?_⟩
      rw [Int.pow_succ, ← Int.mul_assoc]
      rfl
    · rintro σ H2 ⟨rfl, x, rfl⟩
      rw [List.length_map]
      exact ⟨_, rfl, k⟩
end
end LB
set_option Elab.async false
set_option linter.all false
set_option maxRecDepth 100000
set_option maxHeartbeats 4000000
/-! The program's own: is_word, check_table for any table. -/
namespace LB
open PySem L2 Wk
theorem len_list (x : Str) : x.length = x.cps.toList.length := by
  show x.cps.size = _
  rw [Array.length_toList]
theorem goodB_iff {x : Str} : goodB x = true ↔ GoodWord x := by
  refine ⟨goodB_ok, fun g => ?_⟩
  unfold goodB
  simp only [Bool.and_eq_true, decide_eq_true_eq, List.all_eq_true]
  exact ⟨g.1, g.2.1, fun c hc => g.2.2 c hc⟩
/-- the program's four tests say the same -/
theorem tests_good {x : Str} (h1 : x.length ≤ 20) (h2 : Txt.isascii x = true) (h3 : Txt.isalpha x = true) (h4 : Txt.islower x = true) : GoodWord x := by
  unfold Txt.isascii at h2
  unfold Txt.isalpha at h3
  unfold Txt.islower at h4
  rw [Bool.and_eq_true] at h3 h4
  rw [Array.all_eq_true_iff_forall_mem] at h2
  have h32 := h3.2
  rw [Array.all_eq_true_iff_forall_mem] at h32
  have h42 := h4.2
  rw [Bool.not_eq_true', ← Array.any_toList, List.any_eq_false] at h42
  refine ⟨of_decide_eq_true h3.1, h1, fun c hc => ?_⟩
  have hm : c ∈ x.cps := Array.mem_toList_iff.mp hc
  have c1 : c < 128 := of_decide_eq_true (h2 c hm)
  have z := (chars ⟨c, c1⟩).1
  have a := h32 c hm
  have b := h42 c hc
  simp only [a, Bool.true_and] at z
  have b' : (Unicode.isUpper c || Unicode.isTitle c) = false := Bool.eq_false_iff.mpr b
  rw [b'] at z
  simp only [Bool.not_false] at z
  have z2 := z.symm
  rw [Bool.and_eq_true, decide_eq_true_eq, decide_eq_true_eq] at z2
  exact z2
def spIsWordB : Sp := fun vs H Q _ => ∃ x : Str, vs = [.str x] ∧ x.length ≤ 2000 ∧ Q (.bl (goodB x)) H
section
variable {P : Program} {w : World} {K : PySem.W.Frag} {mg : Str → Option Value} {base : Heap} {E1 E2 : Addr}
theorem ok_isWordB {f : Addr} {fd : FuncData} (F : Fun K "is_word" "is_word" sIsWord f fd) (T : TxtP K mg E1 E2) : FnOk P w K mg base CX0 1 f fd ["text"] spIsWordB := by
  refine F.ok scIsWord (fun vs H Q E h => ?_) (fun cdv A outer s H vs Q E hr h => ?_)
  · obtain ⟨x, rfl, _⟩ := h
    rfl
  · obtain ⟨x, rfl, xl, k⟩ := h
    obtain ⟨tk, mL⟩ := T.long
    refine ⟨_, pss_one (ps_ret (pe_and (pe_cmpR op_le (pe_callB call_len_str (by rfl) T.len PySem.boot_len (pa_cons (pv 0) pa_nil)) (pe_glob (v := .int 20) rfl mL ⟨_, rfl⟩) (nomark _))
      (pe_and (pe_m0 PySem.F.slot_str_isascii PySem.F.type_str_isascii mt_isascii (pv 0))
      (pe_and (pe_m0 PySem.F.slot_str_isalpha PySem.F.type_str_isalpha mt_isalpha (pv 0))
      (pe_one (pe_m0 PySem.F.slot_str_islower PySem.F.type_str_islower mt_islower (pv 0))))))), ?_⟩
    have big : 2000 ≤ sizeLine := by decide
    have no : ¬ GoodWord x → Q (.bl false) H := fun n => by
      have e : goodB x = false := Bool.eq_false_iff.mpr fun z => n (goodB_iff.mp z)
      rw [e] at k
      exact k
    refine ⟨_, rfl, x, rfl, by omega, _, _, rfl, rfl, _, rfl, ?_⟩
    refine ite2 (fun c1 => ?_) (fun c1 => no fun g => c1 (decide_eq_true (by have := g.2.1; omega)))
    have c1' : x.length ≤ 20 := by
      have z := of_decide_eq_true c1
      omega
    refine ⟨_, rfl, ⟨_, rfl⟩, x, rfl, rfl, trivial, _, rfl, ?_⟩
    refine ite2 (fun c2 => ?_) (fun c2 => no fun g => c2 g.tests.1)
    refine ⟨_, rfl, ⟨_, rfl⟩, x, rfl, rfl, trivial, _, rfl, ?_⟩
    refine ite2 (fun c3 => ?_) (fun c3 => no fun g => c3 g.tests.2.1)
    refine ⟨_, rfl, ⟨_, rfl⟩, x, rfl, rfl, trivial, ?_⟩
    cases c4 : Txt.islower x with
    | true =>
      rw [goodB_iff.mpr (tests_good c1' c2 c3 c4)] at k
      exact k
    | false => exact no fun g => by rw [g.tests.2.2] at c4; cases c4
/-! ### check_table -/
/-- the first word that is none, or that stood before -/
def firstBad : List Str → List Str → Option V
  | _, [] => none
  | seen, x :: r => if x ∈ seen ∨ goodB x = false then some (.str x) else firstBad (seen ++ [x]) r
def fault (ones tens : List Str) (hun : Str) (scales : List Str) : Option V :=
  if ones.length ≠ 20 ∨ tens.length ≠ 8 then some .non else firstBad [] (ones ++ (tens ++ hun :: scales))
def spCheckX (C : Addr) : Sp := fun vs H Q E => ∃ (t o te sc : Addr) (ones tens : List Str) (hun : Str) (scales : List Str), vs = [.ref t] ∧ TabAt H t ones tens hun scales o te sc ∧ ones.length ≤ 100 ∧ tens.length ≤ 100 ∧ scales.length ≤ 500 ∧
  (∀ x ∈ ones ++ (tens ++ hun :: scales), x.length ≤ 2000) ∧ (fault ones tens hun scales = none → ∀ H', Same H H' → Q .non H') ∧
  (∀ v, fault ones tens hun scales = some v → ∀ d H', H d = none → Same H H' → H' d = some (.xd [("value", v)]) → E (.ref C) (some d) H')
theorem seen_yes {ws : List Str} {x : Str} : (valV (seenK ws) (Sum.inr x : Key)).isSome = decide (x ∈ ws) := by
  by_cases h : x ∈ ws
  · rw [decide_eq_true h]
    unfold valV seenK
    rw [Option.isSome_map, List.find?_isSome]
    exact ⟨_, List.mem_map.mpr ⟨x, h, rfl⟩, decide_eq_true rfl⟩
  · rw [decide_eq_false h, seen_no h]
    rfl
theorem firstBad_cons (seen r : List Str) (x : Str) : firstBad seen (x :: r) = if x ∈ seen ∨ goodB x = false then some (.str x) else firstBad (seen ++ [x]) r := rfl
theorem firstBad_split : ∀ (a seen b : List Str), firstBad seen a = none → firstBad seen (a ++ b) = firstBad (seen ++ a) b
  | [], seen, b, _ => by rw [List.nil_append, List.append_nil]
  | x :: a, seen, b, h => by
    rw [List.cons_append, firstBad_cons]
    rw [firstBad_cons] at h
    by_cases c : x ∈ seen ∨ goodB x = false
    · rw [if_pos c] at h
      cases h
    · rw [if_neg c] at h ⊢
      rw [firstBad_split a (seen ++ [x]) b h, List.append_assoc]
      rfl
theorem ok_checkX {f fW C fI : Addr} {fd dW dI : FuncData} (F : Fun K "check_table" "check_table" sCheck f fd) (T : TxtP K mg E1 E2)
    (GW : FnOk P w K mg base CX0 1 fW dW ["text"] spIsWordB) (gW : mg "is_word" = some (.ref fW)) (kW : PySem.W.keepIn K (.ref fW) = true) (bW : Binds K dW ["text"] [])
    (FC : ClsF P w K mg base "InvalidTable" C fI dI) : FnOk P w K mg base (L2.CX P w) 3 f fd ["table"] (spCheckX C) := by
  refine F.okX scCheck (fun vs H Q E h => ?_) (fun cdv A outer s H vs Q E hr h => ?_)
  · obtain ⟨t, o, te, sc, ones, tens, hun, scales, rfl, _⟩ := h
    rfl
  · obtain ⟨t, o, te, sc, ones, tens, hun, scales, rfl, TA, l1, l2, l3, short, k, kE⟩ := h
    obtain ⟨xs1, xl1, q1⟩ := T.e1
    obtain ⟨xs2, xl2, q2⟩ := T.e2
    have hu := hu_of hr
    have hr1 : Room 1 _ := hr.mono (by decide)
    refine ⟨_, pss_cons (ps_asg (pv 0) (pg_tup (by rfl) (pgs_cons (pg_name (i := 1) scCheck.nd rfl (.inl rfl)) (pgs_cons (pg_name (i := 2) scCheck.nd rfl (.inl rfl)) (pgs_cons (pg_name (i := 3) scCheck.nd rfl (.inl rfl)) (pgs_cons (pg_name (i := 4) scCheck.nd rfl (.inl rfl)) pgs_nil))))))
      (pss_cons (ps_if (PW.pt (pw_or (pt_cmpR op_ne (pe_callB call_len_seq (by rfl) T.len PySem.boot_len (pa_cons (pv 1) pa_nil)) (pe_callB call_len_seq (by rfl) T.len PySem.boot_len (pa_cons (pe_glob (v := .ref E1) rfl T.g1 rfl) pa_nil)) (nomark _))
          (pw_or1 (pt_cmpR op_ne (pe_callB call_len_seq (by rfl) T.len PySem.boot_len (pa_cons (pv 2) pa_nil)) (pe_callB call_len_seq (by rfl) T.len PySem.boot_len (pa_cons (pe_glob (v := .ref E2) rfl T.g2 rfl) pa_nil)) (nomark _)))))
        (pss_one (ps_raiseV FC hr rfl (takes_of rfl rfl rfl rfl) rfl pe_non)) pss_nil)
      (pss_cons (ps_set (i := 5) scCheck.nd rfl (.inl rfl) pe_dnewK)
      (pss_one (ps_for (PassesOwn.leaving) rfl (pi_list (pe_lst (StX.pa_star (pv 1) (StX.pa_star (pv 2) (pa_cons (pv 3) (StX.pa_star (pv 4) pa_nil)))))) (pg_name (i := 6) scCheck.nd rfl (.inl rfl))
        (pss_cons (ps_if (PW.pt (pw_or (pt_cmp (pc_din hu (pv 6) (pv 5))) (pw_or1 (pt_not (pt_val (pe_call GW hr1 (by rfl) gW kW bW .nil pass0 (pa_cons (pv 6) pa_nil)))))))
          (pss_one (ps_raiseV FC hr rfl (takes_of rfl rfl rfl rfl) rfl (pv 6))) pss_nil)
        (pss_one (ps_dput hu (pv 5) (pv 6) pe_bl rfl))))))), ?_⟩
    have wrong : ¬ (ones.length = 20 ∧ tens.length = 8) → fault ones tens hun scales = some .non := fun n => by
      unfold fault
      rw [if_pos]
      by_cases c : ones.length = 20
      · exact .inr fun z => n ⟨c, z⟩
      · exact .inl c
    refine ⟨_, rfl, t, _, rfl, SqT.of TA.tup, rfl, _, _, rfl, _, _, rfl, _, _, rfl, _, _, rfl, rfl, ?_⟩
    refine ⟨_, rfl, o, _, rfl, .inl (SqL.of TA.lo), E1, xs1, rfl, .inr (q1 _), rfl, _, rfl, ?_⟩
    rw [List.length_map, xl1]
    refine ite2 (fun c1 => ?_) (fun c1 => ?_)
    · refine iteT (mk_read fun d H' n s e => kE _ (wrong ?_) d H' n s e)
      rintro ⟨z, _⟩
      rw [z] at c1
      exact absurd c1 (by decide)
    have o20 : ones.length = 20 := by
      have z : decide (V.int ((ones.length : Nat) : Int) = V.int ((20 : Nat) : Int)) = true := by
        cases q : decide (V.int ((ones.length : Nat) : Int) = V.int ((20 : Nat) : Int)) with
        | true => rfl
        | false =>
          rw [q] at c1
          exact absurd rfl c1
      have z2 := V.int.inj (of_decide_eq_true z)
      omega
    refine ⟨_, rfl, te, _, rfl, .inl (SqL.of TA.lt), E2, xs2, rfl, .inr (q2 _), rfl, _, rfl, ?_⟩
    rw [List.length_map, xl2]
    refine ite2 (fun c2 => ?_) (fun c2 => ?_)
    · refine mk_read fun d H' n s e => kE _ (wrong ?_) d H' n s e
      rintro ⟨_, z⟩
      rw [z] at c2
      exact absurd c2 (by decide)
    have t8 : tens.length = 8 := by
      have z : decide (V.int ((tens.length : Nat) : Int) = V.int ((8 : Nat) : Int)) = true := by
        cases q : decide (V.int ((tens.length : Nat) : Int) = V.int ((8 : Nat) : Int)) with
        | true => rfl
        | false =>
          rw [q] at c2
          exact absurd rfl c2
      have z2 := V.int.inj (of_decide_eq_true z)
      omega
    intro e ne
    obtain ⟨row, hrow⟩ : ∃ row, row = ones ++ (tens ++ hun :: scales) := ⟨_, rfl⟩
    have hf : fault ones tens hun scales = firstBad [] row := by
      unfold fault
      rw [if_neg (fun z => z.elim (fun z => z o20) (fun z => z t8)), hrow]
    have rl : row.length ≤ 1000 := by
      rw [hrow, List.length_append, List.length_append, List.length_cons]
      omega
    have s1 : Same H (upd H e (.dK [])) := fun b u z => by
      rw [upd_ne (ne_of_none z ne)]
      exact z
    have eqs : ones.map V.str ++ (tens.map V.str ++ V.str hun :: (scales.map V.str ++ [])) = row.map V.str := by
      rw [hrow, List.append_nil, List.map_append, List.map_append, List.map_cons]
    refine ⟨_, rfl, o, _, rfl, .inr (SqL.of (s1 _ _ TA.lo)), _, rfl, te, _, rfl, .inr (SqL.of (s1 _ _ TA.lt)), _, rfl, _, rfl, sc, _, rfl, .inr (SqL.of (s1 _ _ TA.ls)), ?_, fun L nL => ?_⟩
    · rw [eqs, List.length_map]
      exact Nat.le_of_lt (small1000 rl)
    have Le : L ≠ e := fun z => by
      rw [z, upd_same] at nL
      cases nL
    have nLH : H L = none := by
      rw [upd_ne Le] at nL
      exact nL
    refine ⟨L, rfl, ⟨_, SqL.of upd_same⟩, for_list (K := K) (a := L) (xs := row.map V.str) (fun i σ H2 => ∃ x : Option V, σ = [some (.ref t), some (.ref o), some (.ref te), some (.str hun), some (.ref sc), some (.ref e), x] ∧
      H2 L = some (.lst (row.map V.str)) ∧ H2 e = some (.dK (seenK (row.take i))) ∧ firstBad [] (row.take i) = none ∧ Same H H2) ?_ ?_ ?_ ?_⟩
    · refine ⟨none, rfl, ?_, by rw [upd_ne Le.symm, upd_same]; rfl, rfl, fun b u z => ?_⟩
      · rw [upd_same]
        exact congrArg (fun z => some (HO.lst z)) eqs
      · rw [upd_ne (ne_of_none z nLH)]
        exact s1 b u z
    · rintro i σ H2 _ ⟨x, rfl, hL, _⟩
      exact SqL.of hL
    · rintro i y σ H2 hi ⟨x, rfl, hL, he, fb, s2⟩
      obtain ⟨z, hz, rfl⟩ : ∃ z, row[i]? = some z ∧ y = V.str z := by
        rw [List.getElem?_map] at hi
        cases q : row[i]? with
        | none =>
          rw [q] at hi
          cases hi
        | some z =>
          rw [q] at hi
          exact ⟨z, rfl, (Option.some.inj hi).symm⟩
      have il := (List.getElem?_eq_some_iff.mp hz).1
      have next : row = row.take i ++ z :: row.drop (i + 1) := by
        obtain ⟨h1, h2⟩ := List.getElem?_eq_some_iff.mp hz
        have q := List.take_append_drop i row
        rw [List.drop_eq_getElem_cons h1, h2] at q
        exact q.symm
      have hfz : z ∈ row.take i ∨ goodB z = false → fault ones tens hun scales = some (.str z) := fun c => by
        rw [hf, next, firstBad_split _ _ _ fb, List.nil_append, firstBad_cons, if_pos c]
      have dg := DGet.k (k := (Sum.inr z : Key)) he
      refine ⟨_, rfl, _, rfl, e, _, rfl, dg, _, rfl, ?_⟩
      rw [seen_yes]
      refine ite2 (fun c3 => ?_) (fun c3 => ?_)
      · refine iteT ⟨_, rfl, ?_⟩
        exact mk_read fun d H' n s q => kE _ (hfz (.inl (of_decide_eq_true c3))) d H' (s2.free n) (s2.trans s) q
      have c3' : ¬ z ∈ row.take i := fun m => c3 (decide_eq_true m)
      refine ⟨_, rfl, z, rfl, short z (by rw [← hrow]; exact List.mem_of_getElem? hz), _, rfl, ?_⟩
      cases gz : goodB z with
      | false =>
        refine iteT ⟨_, rfl, ?_⟩
        exact mk_read fun d H' n s q => kE _ (hfz (.inr gz)) d H' (s2.free n) (s2.trans s) q
      | true =>
        refine iteF ?_
        have sl : (seenK (row.take i)).length < sizeLine := by
          refine small1000 ?_
          unfold seenK
          rw [List.length_map, List.length_take]
          omega
        refine ⟨_, rfl, _, rfl, e, _, rfl, DPut.k (k := (Sum.inr z : Key)) (v := .bl true) he sl, ?_⟩
        refine ⟨_, rfl, by rw [upd_ne Le]; exact hL, ?_, ?_, fun b u q => ?_⟩
        · rw [upd_same, putK_new _ (seen_no c3'), List.take_add_one, hz]
          unfold seenK
          rw [List.map_append]
          rfl
        · rw [List.take_add_one, hz]
          show firstBad [] (row.take i ++ [z]) = none
          rw [firstBad_split _ _ _ fb, List.nil_append, firstBad_cons, if_neg]
          · rfl
          · rintro (m | m)
            · exact c3' m
            · rw [gz] at m
              cases m
        · rw [upd_ne (ne_of_none q ne)]
          exact s2 b u q
    · rintro σ H2 ⟨x, rfl, hL, he, fb, s2⟩
      rw [List.length_map, List.take_length] at fb
      exact k (hf.trans fb) H2 s2
end
end LB
set_option Elab.async false
set_option linter.all false
set_option maxRecDepth 100000
set_option maxHeartbeats 4000000
/-! Family B: the kind of a caught error. -/
namespace LB
open PySem L2 Wk
/-! ### list.count of truth values -/
def isB (k : Bool) (v : Value) : Bool := match v with
  | .bool b => b == k
  | _ => false
def rCntB (K : PySem.W.Frag) : V → List V → Hp → VK → Prop := fun x xs H Q => ∃ (p : Addr) (bs : List Bool) (k : Bool), x = .ref p ∧ xs = [.bl k] ∧ SqL K H p (bs.map V.bl) ∧ Q (.int (bs.count k : Nat)) H
theorem bools_are : ∀ {bs : List Bool} {us : List Value}, Vals (bs.map V.bl) us → us = bs.map Value.bool
  | [], _, r => by cases r; rfl
  | b :: bs, _, r => by
    cases r with
    | cons r1 r2 =>
      cases (show _ = Value.bool b from r1)
      rw [bools_are r2]
      rfl
theorem mt_countB {X : Cx} : MtR X "list.count" (rCntB X.K) := by
  intro pins s σ H x xs v us Q I rx rxs h
  obtain ⟨p, bs, k, rfl, rfl, hs, q⟩ := h
  cases rx
  obtain ⟨u, rfl, ru⟩ := rxs.one
  cases (show u = Value.bool k from ru)
  obtain ⟨its, rv, ⟨⟨cls, dd, data, sl⟩, n, ho, hc, hdn, hd⟩, hlen⟩ := I.list hs
  simp only at hc hd
  subst hc hd
  cases bools_are rv
  refine call_meets PySem.F.slot_list_count ⟨_, ho, rfl⟩ PySem.F.entry_list_count (PySem.F.args_list_count_2 _ _)
    (SeqAt.list_countAt p (bs.map Value.bool).toArray n dd sl (.bool k) (isB k)) ⟨ho, fun y hy => ?_, ?_⟩
  · obtain ⟨b, _, rfl⟩ := List.mem_map.mp (List.mem_toArray.mp hy)
    exact SeqAt.EqAt.bool_bool b k
  · have e : (bs.map Value.bool).toArray.toList.countP (isB k) = bs.count k := by
      show (bs.map Value.bool).countP (isB k) = bs.count k
      rw [List.countP_map]
      rfl
    refine ⟨.int (bs.count k : Nat), H, I.tok _, ⟨s.toks, ?_⟩, q⟩
    show Value.int (((bs.map Value.bool).toArray.toList.countP (isB k) : Nat) : Int) s.toks = Value.int ((bs.count k : Nat) : Int) s.toks
    rw [e]
/-! ### _law_kind -/
def kindName : Nat → Str
  | 0 => "table"
  | 1 => "number"
  | 2 => "words"
  | 3 => "range"
  | 4 => "undo"
  | _ => "text"
def flagB (i : Nat) : List Bool := [decide (i = 0), decide (i = 1), decide (i = 2), decide (i = 3), decide (i = 4), decide (i = 5)]
/-- an error of the class at C with the value v has been caught, at a -/
def Caught (H : Hp) (C a : Addr) (v : V) : Prop := ∃ d, H a = some (ExH (.ref C) (some d) a) ∧ H d = some (.xd [("value", v)])
def Apart (K : PySem.W.Frag) (cs : List Addr) : Prop := ∀ (i j : Nat) (C D : Addr), cs[i]? = some C → cs[j]? = some D → PySem.W.kitOne K (.ref C) (.ref D) = some (decide (i = j))
def spKind (cs : List Addr) : Sp := fun vs H Q _ => ∃ (a : Addr) (i : Nat) (C : Addr) (v : V), vs = [.ref a] ∧ cs[i]? = some C ∧ i < 6 ∧ Caught H C a v ∧
  ∀ (L : Addr) (H' : Hp), H L = none → H' L = some (.lst [.str (kindName i), v]) → Same H H' → Q (.ref L) H'
section
variable {P : Program} {w : World} {K : PySem.W.Frag} {mg : Str → Option Value} {base : Heap}
end
end LB
set_option Elab.async false
set_option linter.all false
set_option maxRecDepth 100000
set_option maxHeartbeats 4000000
/-! The program's own: limit for any table. -/
namespace LB
open PySem L2 Wk
def spLimitX (C : Addr) : Sp := fun vs H Q E => ∃ (t o te sc : Addr) (ones tens : List Str) (hun : Str) (scales : List Str), vs = [.ref t] ∧ TabAt H t ones tens hun scales o te sc ∧ ones.length ≤ 100 ∧ tens.length ≤ 100 ∧ scales.length ≤ 500 ∧
  (∀ x ∈ ones ++ (tens ++ hun :: scales), x.length ≤ 2000) ∧ (fault ones tens hun scales = none → ∀ H', Same H H' → Q (.int (limitOf scales)) H') ∧
  (∀ v, fault ones tens hun scales = some v → ∀ d H', H d = none → Same H H' → H' d = some (.xd [("value", v)]) → E (.ref C) (some d) H')
section
variable {P : Program} {w : World} {K : PySem.W.Frag} {mg : Str → Option Value} {base : Heap}
theorem scLimit : FnScope ["table"] ["table"] (defScope sLimit) := ⟨rfl, rfl, rfl, by decide +kernel, rfl, by decide +kernel, by decide +kernel⟩
theorem ok_limitX {f fC C fT : Addr} {fd dC dT : FuncData} (F : Fun K "limit" "limit" sLimit f fd)
    (GC : FnOk P w K mg base (L2.CX P w) 3 fC dC ["table"] (spCheckX C)) (gC : mg "check_table" = some (.ref fC)) (kC : PySem.W.keepIn K (.ref fC) = true) (bC : Binds K dC ["table"] [])
    (T : Def1 P w K mg base "top_of" 1 fT dT ["table"] spTopOf) : FnOk P w K mg base (L2.CX P w) 4 f fd ["table"] (spLimitX C) := by
  refine F.okX scLimit (fun vs H Q E h => ?_) (fun cdv A outer s H vs Q E hr h => ?_)
  · obtain ⟨t, o, te, sc, ones, tens, hun, scales, rfl, _⟩ := h
    rfl
  · obtain ⟨t, o, te, sc, ones, tens, hun, scales, rfl, TA, l1, l2, l3, short, k, kE⟩ := h
    refine ⟨_, pss_cons (ps_expr (pe_call GC hr (by rfl) gC kC bC .nil (passes_call (takes_of rfl rfl rfl rfl) (fun _ _ _ _ h => h)) (pa_cons (pv 0) pa_nil)))
      (pss_one (ps_ret (pe_call T.ok (hr.mono (by decide)) (by rfl) T.g T.k T.b .nil pass0 (pa_cons (pv 0) pa_nil)))), ?_⟩
    refine ⟨_, rfl, t, o, te, sc, ones, tens, hun, scales, rfl, TA, l1, l2, l3, short, fun hf H1 s1 => ?_, fun v hv d H' n s m => kE v hv d H' n s m⟩
    exact ⟨_, rfl, t, o, te, sc, ones, tens, hun, scales, rfl, ⟨s1 _ _ TA.tup, s1 _ _ TA.lo, s1 _ _ TA.lt, s1 _ _ TA.ls⟩, by omega, k hf _ s1⟩
/-- no fault: a table with its 29 or more words -/
theorem firstBad_none : ∀ {l seen : List Str}, firstBad seen l = none → (∀ x ∈ l, GoodWord x) ∧ (seen.Nodup → (seen ++ l).Nodup)
  | [], seen, _ => ⟨(fun x hx => nomatch hx), fun h => by rw [List.append_nil]; exact h⟩
  | x :: l, seen, h => by
    rw [firstBad_cons] at h
    by_cases c : x ∈ seen ∨ goodB x = false
    · rw [if_pos c] at h
      cases h
    · rw [if_neg c] at h
      obtain ⟨h1, h2⟩ := firstBad_none h
      have gx : GoodWord x := goodB_ok (by cases e : goodB x with
        | true => rfl
        | false => exact absurd (.inr e) c)
      refine ⟨fun y hy => ?_, fun hn => ?_⟩
      · rcases List.mem_cons.mp hy with rfl | hy
        · exact gx
        · exact h1 y hy
      · have e : seen ++ x :: l = seen ++ [x] ++ l := by rw [List.append_assoc]; rfl
        rw [e]
        refine h2 (List.nodup_append.mpr ⟨hn, List.pairwise_singleton _ _, fun a ha b hb => ?_⟩)
        rw [List.mem_singleton.mp hb]
        intro z
        exact c (.inl (z ▸ ha))
theorem fault_none {ones tens : List Str} {hun : Str} {scales : List Str} (h : fault ones tens hun scales = none) : ones.length = 20 ∧ tens.length = 8 ∧ GoodRow (ones ++ (tens ++ hun :: scales)) := by
  unfold fault at h
  split at h
  · cases h
  · rename_i c
    obtain ⟨h1, h2⟩ := firstBad_none h
    refine ⟨?_, ?_, ⟨by simpa using h2 List.nodup_nil, h1⟩⟩ <;> omega
end
end LB
set_option Elab.async false
set_option linter.all false
set_option maxRecDepth 100000
set_option maxHeartbeats 4000000
/-! Family B: tables that may be wrong. -/
namespace LB
open PySem L2 Wk
/-! ### a text times a number -/
def rMulS : R2 := fun x y H Q => ∃ (z : Str) (k : Int), x = .str z ∧ y = .int k ∧ 2 ≤ k ∧ k ≤ 1000 ∧ z.length ≤ 1000 ∧ 1 ≤ z.length ∧ Q (.str ⟨(List.replicate k.toNat z.cps).foldl (· ++ ·) #[]⟩) H
theorem size_fold (a : Array Nat) : ∀ (n : Nat) (acc : Array Nat), (List.foldl (fun x1 x2 => x1 ++ x2) acc (List.replicate n a)).size = acc.size + n * a.size
  | 0, acc => by
    rw [List.replicate_zero, List.foldl_nil, Nat.zero_mul, Nat.add_zero]
  | n + 1, acc => by
    rw [List.replicate_succ, List.foldl_cons, size_fold a n, Array.size_append, Nat.succ_mul]
    omega
theorem op_mulS {X : Cx} : OpR X (binaryOp .Mult) rMulS := by
  intro pins s σ H x y v u Q I rx ry h
  obtain ⟨z, k, rfl, rfl, k2, k3, z1, z0, q⟩ := h
  obtain ⟨t, rfl⟩ := rx
  obtain ⟨t2, rfl⟩ := ry
  have hb : (k == 1 || z.length == 0) = false := by
    rw [Bool.or_eq_false_iff]
    exact ⟨beq_eq_false_iff_ne.mpr (by omega), beq_eq_false_iff_ne.mpr (by omega)⟩
  refine PySem.P.mul_str ?_ (fun _ _ => ?_) (fun _ _ => ?_) ?_
  · rw [decide_eq_false (by omega), decide_eq_false (by omega)]
    rfl
  · rw [show (2 ^ 63 - 1 : Int) = 9223372036854775807 by decide]
    have z : (1000 : Int) ≤ 9223372036854775807 / k := Int.le_ediv_of_mul_le (by omega) (by omega)
    omega
  · refine decide_eq_false ?_
    have z : z.length * k.toNat ≤ 1000 * 1000 := Nat.mul_le_mul z1 (by omega)
    have b : 1000 * 1000 ≤ sizeLine := by decide
    omega
  · rw [if_neg (by omega), hb]
    refine ⟨?_, ?_⟩
    · show (List.foldl (fun x1 x2 => x1 ++ x2) #[] (List.replicate k.toNat z.cps)).size ≤ sizeLine
      rw [size_fold]
      show 0 + k.toNat * z.length ≤ sizeLine
      have z : k.toNat * z.length ≤ 1000 * 1000 := Nat.mul_le_mul (by omega) z1
      have b : 1000 * 1000 ≤ sizeLine := by decide
      omega
    · exact ⟨.str _, H, I.tok _, ⟨_, rfl⟩, q⟩
theorem RngAt.strs {H : Hp} {p a : Addr} {d s c : Int} {xs : List Str} (B : RngAt H p d s c) (h : H a = some (.lst (xs.map V.str))) : a ≠ p := by
  rintro rfl
  rw [B.at_] at h
  have e := HO.lst.inj (Option.some.inj h)
  cases xs with
  | nil => cases e
  | cons x r => exact absurd (List.cons.inj e).1 (by simp)
/-- a word as it may come here: short, of common signs -/
def tame (x : Str) : Bool := decide (x.length ≤ 21) && x.cps.toList.all fun c => decide (c < 128)
theorem tame_ok {x : Str} (h : tame x = true) : x.length ≤ 21 ∧ ∀ c ∈ x.cps.toList, c < 128 := by
  unfold tame at h
  simp only [Bool.and_eq_true, decide_eq_true_eq, List.all_eq_true] at h
  exact ⟨h.1, fun c hc => h.2 c hc⟩
theorem GoodWord.tame {x : Str} (g : GoodWord x) : tame x = true := by
  unfold LB.tame
  simp only [Bool.and_eq_true, decide_eq_true_eq, List.all_eq_true]
  exact ⟨Nat.le_trans g.2.1 (by decide), fun c hc => by have := g.2.2 c hc; omega⟩
def Keep (H G : Hp) (p : Addr) : Prop := ∀ q o, H q = some o → q ≠ p → G q = some o
theorem Keep.upd {H G : Hp} {p a : Addr} {x : HO} (k : Keep H G p) (n : G a = none) : Keep H (upd G a x) p := fun q o e m => by
  have z := k q o e m
  rw [upd_ne (ne_of_none z n)]
  exact z
theorem Keep.free {H G : Hp} {p a : Addr} {d s c d' s' c' : Int} (k : Keep H G p) (B : RngAt H p d s c) (B2 : RngAt G p d' s' c') (n : G a = none) : H a = none := by
  cases e : H a with
  | none => rfl
  | some o =>
    have ap : a ≠ p := fun z => by
      rw [z, B2.at_] at n
      cases n
    rw [k a o e ap] at n
    cases n
theorem RngAt.upd {G : Hp} {p a : Addr} {d s c : Int} {x : HO} (B : RngAt G p d s c) (n : G a = none) : RngAt (upd G a x) p d s c := ⟨by
  rw [upd_ne (ne_of_none B.at_ n)]
  exact B.at_, B.d0, B.s0, B.s1, B.c0⟩
theorem upd_keep {G : Hp} {q a : Addr} {o x : HO} (e : G q = some o) (n : G a = none) : upd G a x q = some o := by
  rw [upd_ne (ne_of_none e n)]
  exact e
theorem firstBad_some : ∀ {a seen : List Str} {v : V} (b : List Str), firstBad seen a = some v → firstBad seen (a ++ b) = some v
  | [], _, _, _, h => by cases h
  | x :: a, seen, v, b, h => by
    rw [List.cons_append, firstBad_cons]
    rw [firstBad_cons] at h
    by_cases c : x ∈ seen ∨ goodB x = false
    · rw [if_pos c] at h ⊢
      exact h
    · rw [if_neg c] at h ⊢
      exact firstBad_some b h
theorem firstBad_good : ∀ {a seen : List Str}, (seen ++ a).Nodup → (∀ x ∈ a, GoodWord x) → firstBad seen a = none
  | [], _, _, _ => rfl
  | x :: a, seen, nd, h => by
    rw [firstBad_cons, if_neg]
    · refine firstBad_good ?_ fun y hy => h y (List.mem_cons_of_mem _ hy)
      rw [List.append_assoc]
      exact nd
    · rintro (m | m)
      · exact (List.nodup_append.mp nd).2.2 x m x List.mem_cons_self rfl
      · rw [goodB_iff.mpr (h x List.mem_cons_self)] at m
        cases m
/-! ### the signs of a word that are none -/
def signV (c : Nat) : V := .str ⟨#[c]⟩
def odd (l : List Nat) : List Nat := l.filter fun c => !(decide (97 ≤ c) && decide (c ≤ 122))
theorem odd_snoc (l : List Nat) (c : Nat) : odd (l ++ [c]) = odd l ++ (if (decide (97 ≤ c) && decide (c ≤ 122)) = true then [] else [c]) := by
  unfold odd
  rw [List.filter_append]
  congr 1
  cases h : (decide (97 ≤ c) && decide (c ≤ 122)) with
  | true => rw [List.filter_cons_of_neg (by rw [h]; decide), if_pos rfl]; rfl
  | false => rw [List.filter_cons_of_pos (by rw [h]; decide), if_neg Bool.false_ne_true]; rfl
theorem alpha_mem (c : Nat) : decide (c ∈ ("abcdefghijklmnopqrstuvwxyz" : Str).cps.toList) = (decide (97 ≤ c) && decide (c ≤ 122)) := by
  have e : ("abcdefghijklmnopqrstuvwxyz" : Str).cps.toList = List.range' 97 26 := by decide +kernel
  rw [e, ← Bool.decide_and]
  exact decide_eq_decide.mpr (by rw [List.mem_range'_1]; omega)
theorem odd_good {x : Str} (h1 : 1 ≤ x.length) (h2 : x.length ≤ 20) : goodB x = (odd x.cps.toList).isEmpty := by
  unfold goodB odd
  rw [decide_eq_true h1, decide_eq_true h2, Bool.true_and, Bool.true_and, Bool.eq_iff_iff, List.all_eq_true, List.isEmpty_iff, List.filter_eq_nil_iff]
  simp
theorem signs_dp {K : PySem.W.Frag} {H : Hp} : ∀ l : List Nat, DpAll K H (l.map signV) (l.map fun c => PyData.str ⟨#[c]⟩)
  | [] => .nil
  | c :: l => .cons (.str _) (signs_dp l)
theorem signs_lay : ∀ l : List Nat, (∀ c ∈ l, c < 128) → PyData.canLayAll0 (l.map fun c => PyData.str ⟨#[c]⟩) = true ∧ PyData.depthAll (l.map fun c => PyData.str ⟨#[c]⟩) ≤ 1
  | [], _ => ⟨rfl, by decide⟩
  | c :: l, h => by
    obtain ⟨a, b⟩ := signs_lay l fun x hx => h x (List.mem_cons_of_mem _ hx)
    have hc := h c List.mem_cons_self
    refine ⟨?_, ?_⟩
    · rw [List.map_cons, PyData.canLayAll0, a, Bool.and_true, PyData.canLay0]
      unfold PyData.strOk
      simp
      omega
    · rw [List.map_cons, PyData.depthAll, PyData.depth]
      omega
theorem signs_shaped {l : List Nat} (h : ∀ c ∈ l, c < 128) : SeqAt.shaped (.list (l.map fun c => PyData.str ⟨#[c]⟩)) = true := by
  obtain ⟨a, b⟩ := signs_lay l h
  unfold SeqAt.shaped
  rw [PyData.canLay0, a, PyData.depth]
  simp
  omega
theorem signs_eqv (l : List Nat) : PyData.eqv (.list (l.map fun c => PyData.str ⟨#[c]⟩)) (.list []) = l.isEmpty := by
  cases l with
  | nil => rfl
  | cons c l => rfl
theorem inV_strs (x : Str) : ∀ l : List Str, inV (.str x) (l.map V.str) = decide (x ∈ l)
  | [] => by
    rw [decide_eq_false List.not_mem_nil]
    rfl
  | y :: l => by
    have z := inV_strs x l
    unfold inV at z ⊢
    rw [List.map_cons, List.any_cons, z]
    show (y == x || decide (x ∈ l)) = decide (x ∈ y :: l)
    rw [Bool.eq_iff_iff]
    simp only [Bool.or_eq_true, beq_iff_eq, decide_eq_true_eq, List.mem_cons]
    exact or_congr_left eq_comm
theorem flat_strs (l : List Str) : (l.map V.str).all flatV = true := by
  rw [List.all_map]
  exact List.all_eq_true.mpr fun _ _ => rfl
/-- what the table's error is to be -/
def BadAt (H : Hp) : Option V → V → Prop
  | none, v => v = .non
  | some x, v => ∃ a, v = .ref a ∧ H a = some (.lst [.str "table", x])
theorem BadAt.up {H G : Hp} {b : Option V} {v : V} (h : BadAt H b v) (u : ∀ q o, H q = some o → G q = some o) : BadAt G b v := by
  cases b with
  | none => exact h
  | some x =>
    obtain ⟨a, e, m⟩ := h
    exact ⟨a, e, u _ _ m⟩
theorem firstBad_snoc (l : List Str) (x : Str) : firstBad [] (l ++ [x]) = (match firstBad [] l with | some v => some v | none => if x ∈ l ∨ goodB x = false then some (.str x) else none) := by
  cases e : firstBad [] l with
  | some v => exact firstBad_some _ e
  | none =>
    rw [firstBad_split _ _ _ e, List.nil_append, firstBad_cons]
    rfl
/-- one place is taken by a wrong word, or by a word of the row: what has no fault in the end is what was there -/
def Fix (l0 row : List Str) : Prop := row.Nodup → (∀ x ∈ row, goodB x = true) → row = l0
theorem Fix.put {l0 row : List Str} (h : Fix l0 row) {i : Nat} {x : Str} (hi : i < row.length) (hx : goodB x = false ∨ ∃ j : Nat, row[j]? = some x) : Fix l0 (row.set i x) := by
  intro nd good
  have xm : (row.set i x)[i]? = some x := List.getElem?_set_self hi
  rcases hx with b | ⟨j, hj⟩
  · have z := good x (List.mem_of_getElem? xm)
    rw [b] at z
    cases z
  · by_cases ij : i = j
    · subst ij
      have e : row.set i x = row := by
        apply List.ext_getElem?
        intro k
        by_cases ik : i = k
        · subst ik
          rw [xm, hj]
        · exact List.getElem?_set_ne ik
      rw [e] at nd good ⊢
      exact h nd good
    · exfalso
      have xj : (row.set i x)[j]? = some x := (List.getElem?_set_ne ij).trans hj
      exact ij ((List.getElem?_inj (by rw [List.length_set]; exact hi) nd).mp (xm.trans xj.symm))
def spBadSheet : Sp := fun vs H Q _ => ∃ (p t : Addr) (d s c : Int) (o te sc : Addr) (ones tens : List Str) (hun : Str) (scales : List Str), vs = [.ref p, .ref t] ∧ RngAt H p d s c ∧ c < 2 ^ 29 ∧ TabAt H t ones tens hun scales o te sc ∧
  ones.length = 20 ∧ tens.length = 8 ∧ scales.length ≤ 20 ∧ GoodRow (ones ++ (tens ++ hun :: scales)) ∧
  ∀ (L t2 o2 te2 sc2 : Addr) (ones2 tens2 : List Str) (hun2 : Str) (scales2 : List Str) (bad : V) (d' c' : Int) (H' : Hp), H L = none → H' L = some (.lst [.ref t2, bad]) → TabAt H' t2 ones2 tens2 hun2 scales2 o2 te2 sc2 →
    ones2.length ≤ 21 → tens2.length ≤ 8 → scales2.length = scales.length → (∀ x ∈ ones2 ++ (tens2 ++ hun2 :: scales2), tame x = true) → BadAt H' (fault ones2 tens2 hun2 scales2) bad → (fault ones2 tens2 hun2 scales2 = none → ones2 = ones ∧ tens2 = tens ∧ hun2 = hun ∧ scales2 = scales) → RngAt H' p d' s c' → c' ≤ c + 10 →
    (∀ q o, H q = some o → q ≠ p → H' q = some o) → Q (.ref L) H'
section
variable {P : Program} {w : World} {K : PySem.W.Frag} {mg : Str → Option Value} {base : Heap}
end
end LB
set_option Elab.async false
set_option linter.all false
set_option maxRecDepth 100000
set_option maxHeartbeats 4000000
/-! The mathematics of beginnings: how many numbers of a range have names that begin so. -/
namespace Bg
/-- the numbers from a to e - 1 that lie from lo to hi, as the program counts them -/
def mx (n m : Int) : Int := if m > n then m else n
def mn (n m : Int) : Int := if m < n then m else n
def ov (lo hi a e : Int) : Int := mx 0 (mn (e - 1) hi - mx a lo + 1)
/-- how many of lo .. hi are below x -/
def fb (lo hi x : Int) : Int := mx 0 (mn x (hi + 1) - lo)
theorem ov_fb {lo hi a e : Int} (h : a ≤ e) : ov lo hi a e = fb lo hi e - fb lo hi a := by
  unfold ov fb mx mn
  repeat' split
  all_goals omega
theorem fb_mono {lo hi a e : Int} (h : a ≤ e) : fb lo hi a ≤ fb lo hi e := by
  unfold fb mx mn
  repeat' split
  all_goals omega
theorem fb_one {lo hi x : Int} (h : lo ≤ hi) : fb lo hi (x + 1) - fb lo hi x = if lo ≤ x ∧ x ≤ hi then 1 else 0 := by
  unfold fb mx mn
  repeat' split
  all_goals omega
theorem fb_low {lo hi x : Int} (h : x ≤ lo) : fb lo hi x = 0 := by
  unfold fb mx mn
  repeat' split
  all_goals omega
theorem fb_high {lo hi x : Int} (h : hi < x) (l : lo ≤ hi) : fb lo hi x = hi - lo + 1 := by
  unfold fb mx mn
  repeat' split
  all_goals omega
theorem fb_same {lo hi a e : Int} (h : a ≤ e) (c : hi < a ∨ e ≤ lo) : fb lo hi e - fb lo hi a = 0 := by
  unfold fb mx mn
  repeat' split
  all_goals omega
/-! ### sums -/
def sumR (f : Nat → Int) : Nat → Int
  | 0 => 0
  | n + 1 => sumR f n + f n
def sumL {α : Type} (f : α → Int) : List α → Int
  | [] => 0
  | x :: l => f x + sumL f l
theorem sumR_add (f g : Nat → Int) : ∀ n, sumR (fun j => f j + g j) n = sumR f n + sumR g n
  | 0 => rfl
  | n + 1 => by
    show sumR (fun j => f j + g j) n + (f n + g n) = (sumR f n + f n) + (sumR g n + g n)
    rw [sumR_add f g n]
    omega
theorem sumR_zero : ∀ n, sumR (fun _ => 0) n = 0
  | 0 => rfl
  | n + 1 => by
    show sumR (fun _ => 0) n + 0 = 0
    rw [sumR_zero n]
    rfl
theorem sumR_congr {f g : Nat → Int} : ∀ n, (∀ j, j < n → f j = g j) → sumR f n = sumR g n
  | 0, _ => rfl
  | n + 1, h => by
    show sumR f n + f n = sumR g n + g n
    rw [sumR_congr n fun j hj => h j (Nat.lt_succ_of_lt hj), h n (Nat.lt_succ_self n)]
theorem sumR_nonneg {f : Nat → Int} : ∀ n, (∀ j, j < n → 0 ≤ f j) → 0 ≤ sumR f n
  | 0, _ => Int.le_refl 0
  | n + 1, h => by
    have a := sumR_nonneg n fun j hj => h j (Nat.lt_succ_of_lt hj)
    have b := h n (Nat.lt_succ_self n)
    show 0 ≤ sumR f n + f n
    omega
theorem sumR_tel (f : Nat → Int) : ∀ n, sumR (fun j => f (j + 1) - f j) n = f n - f 0
  | 0 => by
    show (0 : Int) = f 0 - f 0
    omega
  | n + 1 => by
    show sumR (fun j => f (j + 1) - f j) n + (f (n + 1) - f n) = f (n + 1) - f 0
    rw [sumR_tel f n]
    omega
theorem sumL_append {α : Type} (f : α → Int) : ∀ a b : List α, sumL f (a ++ b) = sumL f a + sumL f b
  | [], b => by
    show sumL f b = 0 + sumL f b
    omega
  | x :: a, b => by
    show f x + sumL f (a ++ b) = f x + sumL f a + sumL f b
    rw [sumL_append f a b]
    omega
theorem sumL_perm {α : Type} (f : α → Int) {a b : List α} (h : a.Perm b) : sumL f a = sumL f b := by
  induction h with
  | nil => rfl
  | cons x _ ih => exact congrArg (f x + ·) ih
  | swap x y l =>
    show f y + (f x + sumL f l) = f x + (f y + sumL f l)
    omega
  | trans _ _ h1 h2 => exact h1.trans h2
theorem sumL_map {α β : Type} (g : α → β) (f : β → Int) : ∀ l : List α, sumL f (l.map g) = sumL (fun x => f (g x)) l
  | [] => rfl
  | x :: l => congrArg (f (g x) + ·) (sumL_map g f l)
theorem sumL_congr {α : Type} {f g : α → Int} : ∀ l : List α, (∀ x ∈ l, f x = g x) → sumL f l = sumL g l
  | [], _ => rfl
  | x :: l, h => by
    show f x + sumL f l = g x + sumL g l
    rw [h x List.mem_cons_self, sumL_congr l fun y hy => h y (List.mem_cons_of_mem _ hy)]
theorem sumL_zero {α : Type} {f : α → Int} (l : List α) (h : ∀ x ∈ l, f x = 0) : sumL f l = 0 := by
  induction l with
  | nil => rfl
  | cons x l ih =>
    show f x + sumL f l = 0
    rw [h x List.mem_cons_self, ih fun y hy => h y (List.mem_cons_of_mem _ hy)]
    rfl
theorem sumL_nonneg {α : Type} {f : α → Int} : ∀ l : List α, (∀ x ∈ l, 0 ≤ f x) → 0 ≤ sumL f l
  | [], _ => Int.le_refl 0
  | x :: l, h => by
    have a := h x List.mem_cons_self
    have b := sumL_nonneg l fun y hy => h y (List.mem_cons_of_mem _ hy)
    show 0 ≤ f x + sumL f l
    omega
theorem sumL_swap {α : Type} (f : α → Nat → Int) (n : Nat) : ∀ l : List α, sumL (fun x => sumR (f x) n) l = sumR (fun j => sumL (fun x => f x j) l) n
  | [] => (sumR_zero n).symm
  | x :: l => by
    show sumR (f x) n + sumL (fun x => sumR (f x) n) l = sumR (fun j => f x j + sumL (fun x => f x j) l) n
    rw [sumR_add, sumL_swap f n l]
theorem sumL_range (f : Nat → Int) : ∀ n, sumL f (List.range n) = sumR f n
  | 0 => rfl
  | n + 1 => by
    rw [List.range_succ, sumL_append, sumL_range f n]
    show sumR f n + (f n + 0) = sumR f n + f n
    omega
/-! ### beginnings -/
/-- (total, group, room, top = 1000 ^ m) -/
structure Bg where
  t : Int
  g : Int
  r : Int
  m : Nat
def W (j : Nat) : Int := 1000 ^ j
theorem W_pos (j : Nat) : 0 < W j := Int.pow_pos (by decide)
theorem W_succ (j : Nat) : W (j + 1) = 1000 * W j := by
  show (1000 : Int) ^ (j + 1) = 1000 * 1000 ^ j
  rw [Int.pow_succ, Int.mul_comm]
theorem W_le {i j : Nat} (h : i ≤ j) : W i ≤ W j := by
  induction h with
  | refl => exact Int.le_refl _
  | step _ ih =>
    rw [W_succ]
    have := W_pos i
    omega
theorem W_lt {i j : Nat} (h : i < j) : 1000 * W i ≤ W j := by
  rw [← W_succ]
  exact W_le h
theorem W_inj {i j : Nat} : W i < W j ↔ i < j := by
  constructor
  · intro h
    rcases Nat.lt_or_ge i j with z | z
    · exact z
    · have := W_le z
      omega
  · intro h
    have a := W_lt h
    have b := W_pos i
    omega
/-- the beginnings that occur -/
def Ok (b : Bg) : Prop := 0 ≤ b.t ∧ ((b.t = 0 ∧ b.g = 0 ∧ b.r = 1 ∧ b.m = 0) ∨ (0 < b.m ∧ (
  (b.g = 0 ∧ b.r = 100) ∨ (1 ≤ b.g ∧ b.g ≤ 9 ∧ b.r = 1) ∨ (∃ d : Int, 1 ≤ d ∧ d ≤ 9 ∧ b.g = 100 * d ∧ b.r = 100) ∨
  (∃ h k : Int, 0 ≤ h ∧ h ≤ 9 ∧ 2 ≤ k ∧ k ≤ 9 ∧ b.g = 100 * h + 10 * k ∧ b.r = 10) ∨ (10 ≤ b.g ∧ b.g ≤ 999 ∧ b.r = 1))))
def has (b : Bg) : Bool := decide (b.t + b.g > 0) || decide (b.r = 1)
def zero : Bg := ⟨0, 0, 1, 0⟩
/-- a word's worth: a number below 100 that has a word, 100, or 1000 ^ (i + 1) -/
inductive Wo where
  | low (n : Int)
  | hun
  | sc (i : Nat)
def Wo.val : Wo → Int
  | .low n => n
  | .hun => 100
  | .sc i => W (i + 1)
def Wo.Ok : Wo → Prop
  | .low n => 0 ≤ n ∧ n < 100
  | .hun => True
  | .sc _ => True
def fol (b : Bg) : Wo → Option Bg
  | .low n =>
    if n = 0 then (if has b then none else some zero)
    else if n ≥ 10 then (if b.r = 100 then some ⟨b.t, b.g + n, if n ≥ 20 then 10 else 1, b.m⟩ else none)
    else if b.r ≥ 10 then some ⟨b.t, b.g + n, 1, b.m⟩ else none
  | .hun => if 0 < b.g ∧ b.g < 10 then some ⟨b.t, b.g * 100, 100, b.m⟩ else none
  | .sc i => if b.g > 0 ∧ i + 1 < b.m then some ⟨b.t + b.g * W (i + 1), 0, 100, i + 1⟩ else none
/-- one scale's share -/
def cj (G : Int → Int) (g r : Int) : Int := (G (g + r) - G g) + if g < 10 then G ((g + 1) * 100) - G (g * 100) else 0
def cf (F : Int → Int) (b : Bg) : Int := if b.g = 0 then F (b.t + W b.m) - F b.t else sumR (fun j => cj (fun n => F (b.t + n * W j)) b.g b.r) b.m
def own (F : Int → Int) (b : Bg) : Int := if has b then F (b.t + b.g + 1) - F (b.t + b.g) else 0
def cfo (F : Int → Int) (b : Bg) (x : Wo) : Int := match fol b x with
  | none => 0
  | some c => cf F c
def lows : List Wo := (List.range 20).map fun n : Nat => .low (n : Int)
def tens : List Wo := (List.range 8).map fun n : Nat => .low (10 * ((n : Int) + 2))
def scs (k : Nat) : List Wo := (List.range k).map fun i => .sc i
def all (k : Nat) : List Wo := .hun :: (lows ++ (tens ++ scs k))
theorem scales_sum {F : Int → Int} {b : Bg} {k : Nat} (hg : 0 < b.g) (hm : 0 < b.m) (hk : b.m ≤ k + 1) :
    F (b.t + b.g + 1) - F (b.t + b.g) + sumL (cfo F b) (scs k) = sumR (fun j => F (b.t + (b.g + 1) * W j) - F (b.t + b.g * W j)) b.m := by
  unfold scs
  rw [sumL_map, sumL_range]
  obtain ⟨m, hm'⟩ : ∃ m, b.m = m + 1 := ⟨b.m - 1, by omega⟩
  have one : ∀ i, cfo F b (.sc i) = if i < m then F (b.t + (b.g + 1) * W (i + 1)) - F (b.t + b.g * W (i + 1)) else 0 := by
    intro i
    unfold cfo fol
    by_cases h : i < m
    · rw [if_pos h]
      simp only
      rw [if_pos ⟨hg, by omega⟩]
      show cf F ⟨b.t + b.g * W (i + 1), 0, 100, i + 1⟩ = _
      unfold cf
      rw [if_pos rfl]
      show F (b.t + b.g * W (i + 1) + W (i + 1)) - F (b.t + b.g * W (i + 1)) = _
      rw [Int.add_mul, Int.one_mul, Int.add_assoc]
    · rw [if_neg h]
      simp only
      rw [if_neg (by omega)]
  have cut : ∀ n, sumR (fun i => cfo F b (.sc i)) n = sumR (fun j => F (b.t + (b.g + 1) * W (j + 1)) - F (b.t + b.g * W (j + 1))) (if n < m then n else m) := by
    intro n
    induction n with
    | zero =>
      by_cases h : 0 < m
      · rw [if_pos h]
        rfl
      · rw [if_neg h, show m = 0 by omega]
        rfl
    | succ n ih =>
      show sumR (fun i => cfo F b (.sc i)) n + cfo F b (.sc n) = _
      rw [ih, one]
      by_cases h : n < m
      · rw [if_pos h, if_pos h]
        by_cases h2 : n + 1 < m
        · rw [if_pos h2]
          rfl
        · rw [if_neg h2, show m = n + 1 by omega]
          rfl
      · rw [if_neg h, if_neg h, if_neg (by omega)]
        omega
  rw [show (fun x => cfo F b (Wo.sc x)) = (fun i => cfo F b (.sc i)) from rfl, cut k, show (if k < m then k else m) = m by split <;> omega, hm']
  generalize hf : (fun j => F (b.t + (b.g + 1) * W j) - F (b.t + b.g * W j)) = f
  have e0 : F (b.t + b.g + 1) - F (b.t + b.g) = f 0 := by
    rw [← hf]
    show _ = F (b.t + (b.g + 1) * 1) - F (b.t + b.g * 1)
    rw [Int.mul_one, Int.mul_one, Int.add_assoc]
  have e1 : (fun j => F (b.t + (b.g + 1) * W (j + 1)) - F (b.t + b.g * W (j + 1))) = fun j => f (j + 1) := by
    rw [← hf]
  rw [e0, e1]
  clear cut one e1 e0
  induction m generalizing b with
  | zero =>
    show f 0 + 0 = 0 + f 0
    omega
  | succ n ih =>
    clear ih hf
    have st : ∀ n, f 0 + sumR (fun j => f (j + 1)) n = sumR f (n + 1) := by
      intro n
      induction n with
      | zero =>
        show f 0 + 0 = 0 + f 0
        omega
      | succ n ih =>
        show f 0 + (sumR (fun j => f (j + 1)) n + f (n + 1)) = sumR f (n + 1) + f (n + 1)
        rw [← ih]
        omega
    exact st (n + 1)
theorem scales_none {F : Int → Int} {b : Bg} {k : Nat} (hg : b.g = 0 ∨ b.m = 0) : sumL (cfo F b) (scs k) = 0 := by
  refine sumL_zero _ fun x hx => ?_
  obtain ⟨i, _, rfl⟩ := List.mem_map.mp hx
  unfold cfo fol
  simp only
  rw [if_neg (by omega)]
/-- the children below hundred and hundred, as pairs (group, room), where they are -/
theorem cf_pos {F : Int → Int} {b : Bg} (h : b.g ≠ 0) : cf F b = sumR (fun j => cj (fun n => F (b.t + n * W j)) b.g b.r) b.m := if_neg h
/-- one scale's share of a word behind b -/
def cjo (F : Int → Int) (b : Bg) (x : Wo) (j : Nat) : Int := match fol b x with
  | none => 0
  | some c => cj (fun n => F (b.t + n * W j)) c.g c.r
def dig : List Wo := [.low 1, .low 2, .low 3, .low 4, .low 5, .low 6, .low 7, .low 8, .low 9]
def teen : List Wo := [.low 10, .low 11, .low 12, .low 13, .low 14, .low 15, .low 16, .low 17, .low 18, .low 19]
def tens1 : List Wo := [.low 20, .low 30, .low 40, .low 50, .low 60, .low 70, .low 80, .low 90]
theorem lows_is : lows = .low 0 :: (dig ++ teen) := rfl
theorem tens_is : tens = tens1 := rfl
/-- a word below hundred but 0, or hundred -/
def Sub : Wo → Prop
  | .low n => 0 < n
  | .hun => True
  | .sc _ => False
theorem cfo_sub {F : Int → Int} {b : Bg} {x : Wo} (h0 : 0 ≤ b.g) (hx : Sub x) : cfo F b x = sumR (cjo F b x) b.m := by
  unfold cfo cjo
  cases x with
  | sc i => exact hx.elim
  | hun =>
    unfold fol
    simp only
    by_cases c : 0 < b.g ∧ b.g < 10
    · rw [if_pos c]
      simp only
      rw [cf_pos (show b.g * 100 ≠ 0 by omega)]
    · rw [if_neg c]
      exact (sumR_zero _).symm
  | low n =>
    have n0 : 0 < n := hx
    unfold fol
    simp only
    rw [if_neg (by omega)]
    by_cases c : n ≥ 10
    · rw [if_pos c]
      by_cases d : b.r = 100
      · rw [if_pos d]
        simp only
        rw [cf_pos (show b.g + n ≠ 0 by omega)]
      · rw [if_neg d]
        exact (sumR_zero _).symm
    · rw [if_neg c]
      by_cases d : b.r ≥ 10
      · rw [if_pos d]
        simp only
        rw [cf_pos (show b.g + n ≠ 0 by omega)]
      · rw [if_neg d]
        exact (sumR_zero _).symm
theorem subs_sum {F : Int → Int} {b : Bg} (h0 : 0 ≤ b.g) {l : List Wo} (hl : ∀ x ∈ l, Sub x) : sumL (cfo F b) l = sumR (fun j => sumL (fun x => cjo F b x j) l) b.m := by
  rw [← sumL_swap]
  exact sumL_congr l fun x hx => cfo_sub h0 (hl x hx)
theorem cjo_dig {F : Int → Int} {b : Bg} {n : Int} {j : Nat} (h1 : 0 < n) (h2 : n < 10) (hr : b.r ≥ 10) : cjo F b (.low n) j = cj (fun n => F (b.t + n * W j)) (b.g + n) 1 := by
  unfold cjo fol
  simp only
  rw [if_neg (by omega), if_neg (by omega), if_pos hr]
theorem cjo_dig0 {F : Int → Int} {b : Bg} {n : Int} {j : Nat} (h1 : 0 < n) (h2 : n < 10) (hr : ¬ b.r ≥ 10) : cjo F b (.low n) j = 0 := by
  unfold cjo fol
  simp only
  rw [if_neg (by omega), if_neg (by omega), if_neg hr]
theorem cjo_ten {F : Int → Int} {b : Bg} {n : Int} {j : Nat} (h1 : 10 ≤ n) (hr : b.r = 100) : cjo F b (.low n) j = cj (fun n => F (b.t + n * W j)) (b.g + n) (if n ≥ 20 then 10 else 1) := by
  unfold cjo fol
  simp only
  rw [if_neg (by omega), if_pos h1, if_pos hr]
theorem cjo_ten0 {F : Int → Int} {b : Bg} {n : Int} {j : Nat} (h1 : 10 ≤ n) (hr : ¬ b.r = 100) : cjo F b (.low n) j = 0 := by
  unfold cjo fol
  simp only
  rw [if_neg (by omega), if_pos h1, if_neg hr]
theorem cjo_hun {F : Int → Int} {b : Bg} {j : Nat} (h1 : 0 < b.g) (h2 : b.g < 10) : cjo F b .hun j = cj (fun n => F (b.t + n * W j)) (b.g * 100) 100 := by
  unfold cjo fol
  simp only
  rw [if_pos ⟨h1, h2⟩]
theorem cjo_hun0 {F : Int → Int} {b : Bg} {j : Nat} (h : ¬ (0 < b.g ∧ b.g < 10)) : cjo F b .hun j = 0 := by
  unfold cjo fol
  simp only
  rw [if_neg h]
theorem cj_big {G : Int → Int} {g r : Int} (h : ¬ g < 10) : cj G g r = G (g + r) - G g := by
  unfold cj
  rw [if_neg h]
  omega
theorem cj_small {G : Int → Int} {g r : Int} (h : g < 10) : cj G g r = (G (g + r) - G g) + (G ((g + 1) * 100) - G (g * 100)) := by
  unfold cj
  rw [if_pos h]
/-- nine digits behind g -/
theorem dig_sum {F : Int → Int} {b : Bg} {j : Nat} (hg : 10 ≤ b.g) (hr : b.r ≥ 10) : sumL (fun x => cjo F b x j) dig = F (b.t + (b.g + 10) * W j) - F (b.t + (b.g + 1) * W j) := by
  have one : ∀ n : Int, 0 < n → n < 10 → cjo F b (.low n) j = F (b.t + (b.g + (n + 1)) * W j) - F (b.t + (b.g + n) * W j) := by
    intro n h1 h2
    rw [cjo_dig h1 h2 hr, cj_big (by omega)]
    simp only [Int.add_assoc]
  unfold dig
  simp only [sumL]
  rw [one 1 (by decide) (by decide), one 2 (by decide) (by decide), one 3 (by decide) (by decide), one 4 (by decide) (by decide), one 5 (by decide) (by decide), one 6 (by decide) (by decide), one 7 (by decide) (by decide), one 8 (by decide) (by decide), one 9 (by decide) (by decide)]
  simp only [Int.reduceAdd]
  omega
theorem dig_sum0 {F : Int → Int} {b : Bg} {j : Nat} (hg : b.g = 0) (hr : b.r ≥ 10) : sumL (fun x => cjo F b x j) dig = (F (b.t + 10 * W j) - F (b.t + 1 * W j)) + (F (b.t + 1000 * W j) - F (b.t + 100 * W j)) := by
  have one : ∀ n : Int, 0 < n → n < 10 → cjo F b (.low n) j = (F (b.t + (n + 1) * W j) - F (b.t + n * W j)) + (F (b.t + ((n + 1) * 100) * W j) - F (b.t + (n * 100) * W j)) := by
    intro n h1 h2
    rw [cjo_dig h1 h2 hr, cj_small (by omega), hg]
    simp only [Int.zero_add]
  unfold dig
  simp only [sumL]
  rw [one 1 (by decide) (by decide), one 2 (by decide) (by decide), one 3 (by decide) (by decide), one 4 (by decide) (by decide), one 5 (by decide) (by decide), one 6 (by decide) (by decide), one 7 (by decide) (by decide), one 8 (by decide) (by decide), one 9 (by decide) (by decide)]
  simp only [Int.reduceAdd, Int.reduceMul]
  omega
theorem teen_sum {F : Int → Int} {b : Bg} {j : Nat} (hg : 0 ≤ b.g) (hr : b.r = 100) : sumL (fun x => cjo F b x j) teen = F (b.t + (b.g + 20) * W j) - F (b.t + (b.g + 10) * W j) := by
  have one : ∀ n : Int, 10 ≤ n → n < 20 → cjo F b (.low n) j = F (b.t + (b.g + (n + 1)) * W j) - F (b.t + (b.g + n) * W j) := by
    intro n h1 h2
    rw [cjo_ten h1 hr, if_neg (by omega), cj_big (by omega)]
    simp only [Int.add_assoc]
  unfold teen
  simp only [sumL]
  rw [one 10 (by decide) (by decide), one 11 (by decide) (by decide), one 12 (by decide) (by decide), one 13 (by decide) (by decide), one 14 (by decide) (by decide), one 15 (by decide) (by decide), one 16 (by decide) (by decide), one 17 (by decide) (by decide), one 18 (by decide) (by decide), one 19 (by decide) (by decide)]
  simp only [Int.reduceAdd]
  omega
theorem tens_sum {F : Int → Int} {b : Bg} {j : Nat} (hg : 0 ≤ b.g) (hr : b.r = 100) : sumL (fun x => cjo F b x j) tens1 = F (b.t + (b.g + 100) * W j) - F (b.t + (b.g + 20) * W j) := by
  have one : ∀ n : Int, 20 ≤ n → cjo F b (.low n) j = F (b.t + (b.g + (n + 10)) * W j) - F (b.t + (b.g + n) * W j) := by
    intro n h1
    rw [cjo_ten (by omega) hr, if_pos (by omega), cj_big (by omega)]
    simp only [Int.add_assoc]
  unfold tens1
  simp only [sumL]
  rw [one 20 (by decide), one 30 (by decide), one 40 (by decide), one 50 (by decide), one 60 (by decide), one 70 (by decide), one 80 (by decide), one 90 (by decide)]
  simp only [Int.reduceAdd]
  omega
theorem none_sum {F : Int → Int} {b : Bg} {j : Nat} {l : List Wo} (h : ∀ x ∈ l, cjo F b x j = 0) : sumL (fun x => cjo F b x j) l = 0 := sumL_zero l h
theorem teen_mem {x : Wo} (h : x ∈ teen) : ∃ n, 10 ≤ n ∧ x = .low n := by
  unfold teen at h
  simp only [List.mem_cons, List.not_mem_nil, or_false] at h
  rcases h with h | h | h | h | h | h | h | h | h | h <;> exact ⟨_, by decide, h⟩
theorem tens_mem {x : Wo} (h : x ∈ tens1) : ∃ n, 10 ≤ n ∧ x = .low n := by
  unfold tens1 at h
  simp only [List.mem_cons, List.not_mem_nil, or_false] at h
  rcases h with h | h | h | h | h | h | h | h <;> exact ⟨_, by decide, h⟩
theorem dig_mem {x : Wo} (h : x ∈ dig) : ∃ n, 0 < n ∧ n < 10 ∧ x = .low n := by
  unfold dig at h
  simp only [List.mem_cons, List.not_mem_nil, or_false] at h
  rcases h with h | h | h | h | h | h | h | h | h <;> exact ⟨_, by decide, by decide, h⟩
theorem all_split {F : Int → Int} {b : Bg} {k : Nat} (h0 : 0 ≤ b.g) : sumL (cfo F b) (all k) = cfo F b (.low 0) + sumR (fun j => cjo F b .hun j + (sumL (fun x => cjo F b x j) dig + (sumL (fun x => cjo F b x j) teen + sumL (fun x => cjo F b x j) tens1))) b.m + sumL (cfo F b) (scs k) := by
  have e : sumL (cfo F b) (.hun :: (dig ++ (teen ++ tens1))) = sumR (fun j => sumL (fun x => cjo F b x j) (.hun :: (dig ++ (teen ++ tens1)))) b.m := subs_sum h0 fun x hx => by
    rcases List.mem_cons.mp hx with rfl | hx
    · trivial
    rcases List.mem_append.mp hx with hx | hx
    · obtain ⟨n, h1, _, rfl⟩ := dig_mem hx
      exact h1
    rcases List.mem_append.mp hx with hx | hx
    · obtain ⟨n, h1, rfl⟩ := teen_mem hx
      show 0 < n
      omega
    · obtain ⟨n, h1, rfl⟩ := tens_mem hx
      show 0 < n
      omega
  have e2 : (fun j => sumL (fun x => cjo F b x j) (.hun :: (dig ++ (teen ++ tens1)))) = fun j => cjo F b .hun j + (sumL (fun x => cjo F b x j) dig + (sumL (fun x => cjo F b x j) teen + sumL (fun x => cjo F b x j) tens1)) := by
    funext j
    show cjo F b .hun j + sumL (fun x => cjo F b x j) (dig ++ (teen ++ tens1)) = _
    rw [sumL_append, sumL_append]
  rw [e2] at e
  rw [← e]
  unfold all
  rw [lows_is, tens_is]
  show cfo F b .hun + sumL (cfo F b) ((.low 0 :: (dig ++ teen)) ++ (tens1 ++ scs k)) = cfo F b (.low 0) + (cfo F b .hun + sumL (cfo F b) (dig ++ (teen ++ tens1))) + sumL (cfo F b) (scs k)
  rw [sumL_append, sumL_append, sumL_append, sumL_append]
  show cfo F b .hun + (cfo F b (.low 0) + sumL (cfo F b) (dig ++ teen) + (sumL (cfo F b) tens1 + sumL (cfo F b) (scs k))) = _
  rw [sumL_append]
  omega
theorem zero_none {F : Int → Int} {b : Bg} (h : has b = true) : cfo F b (.low 0) = 0 := by
  unfold cfo fol
  simp only
  rw [if_pos trivial, if_pos h]
/-- THE COUNT: the names that begin so are the whole one and those that go on with a word -/
theorem count {F : Int → Int} {b : Bg} {k : Nat} (ok : Ok b) (hk : b.m ≤ k + 1) : cf F b = own F b + sumL (cfo F b) (all k) := by
  obtain ⟨t0, h | ⟨m0, h⟩⟩ := ok
  · obtain ⟨e1, e2, e3, e4⟩ := h
    have hb : has b = true := by
      unfold has
      rw [e3]
      simp
    rw [all_split (by omega), zero_none hb, e4, scales_none (.inr e4)]
    unfold cf own
    rw [if_pos e2, if_pos hb, e4, e2, e1]
    show F (0 + W 0) - F 0 = F (0 + 0 + 1) - F (0 + 0) + (0 + 0 + 0)
    rw [show W 0 = 1 from rfl]
    show F 1 - F 0 = F 1 - F 0 + 0
    omega
  rcases h with ⟨e2, e3⟩ | h
  · -- nothing yet in this group
    rw [all_split (by omega), scales_none (.inl e2)]
    have z : sumR (fun j => cjo F b .hun j + (sumL (fun x => cjo F b x j) dig + (sumL (fun x => cjo F b x j) teen + sumL (fun x => cjo F b x j) tens1))) b.m = F (b.t + W b.m) - F (b.t + 1) := by
      rw [sumR_congr (g := fun j => F (b.t + W (j + 1)) - F (b.t + W j)) b.m fun j _ => ?_, sumR_tel (fun j => F (b.t + W j))]
      · rfl
      · rw [cjo_hun0 (by omega), dig_sum0 e2 (by omega), teen_sum (by omega) e3, tens_sum (by omega) e3, e2, W_succ]
        simp only [Int.zero_add, Int.one_mul]
        omega
    rw [z]
    unfold cf own
    rw [if_pos e2]
    by_cases hb : b.t > 0
    · have h1 : has b = true := by
        unfold has
        rw [decide_eq_true (show b.t + b.g > 0 by omega)]
        rfl
      rw [zero_none h1, if_pos h1, e2, Int.add_zero]
      omega
    · have h1 : has b = false := by
        unfold has
        rw [decide_eq_false (show ¬ b.t + b.g > 0 by omega), decide_eq_false (show ¬ b.r = 1 by omega)]
        rfl
      have e : b.t = 0 := by omega
      rw [h1, if_neg Bool.false_ne_true]
      have c0 : cfo F b (.low 0) = F (0 + 1) - F 0 := by
        unfold cfo fol
        simp only
        rw [if_pos trivial, h1, if_neg Bool.false_ne_true]
        show cf F zero = _
        unfold cf zero
        rw [if_pos rfl]
        rfl
      rw [c0, e]
      omega
  -- a group with words
  have g0 : 0 < b.g := by
    rcases h with ⟨h1, _⟩ | ⟨d, h1, _, h2, _⟩ | ⟨x, y, h1, _, h2, _, h3, _⟩ | ⟨h1, _⟩ <;> omega
  have hb : has b = true := by
    unfold has
    rw [decide_eq_true (show b.t + b.g > 0 by omega)]
    rfl
  have sc := scales_sum (F := F) (k := k) g0 m0 hk
  rw [all_split (by omega), zero_none hb, cf_pos (by omega)]
  unfold own
  rw [if_pos hb]
  have fin : ∀ f : Nat → Int, (∀ j, j < b.m → cj (fun n => F (b.t + n * W j)) b.g b.r = f j + (F (b.t + (b.g + 1) * W j) - F (b.t + b.g * W j))) → sumR (fun j => cj (fun n => F (b.t + n * W j)) b.g b.r) b.m = F (b.t + b.g + 1) - F (b.t + b.g) + (0 + sumR f b.m + sumL (cfo F b) (scs k)) := by
    intro f hf
    rw [sumR_congr b.m hf, sumR_add, ← sc]
    omega
  refine fin _ fun j _ => ?_
  rcases h with ⟨h1, h2, h3⟩ | ⟨d, h1, h2, h3, h4⟩ | ⟨x, y, h1, h2, h3, h4, h5, h6⟩ | ⟨h1, h2, h3⟩
  · rw [cjo_hun g0 (by omega), none_sum (l := dig), none_sum (l := teen), none_sum (l := tens1), cj_small (by omega), cj_big (by omega), h3]
    · simp only [Int.add_mul b.g 1 100, Int.one_mul]
      omega
    · intro x hx
      obtain ⟨n, h1, rfl⟩ := tens_mem hx
      exact cjo_ten0 h1 (by omega)
    · intro x hx
      obtain ⟨n, h1, rfl⟩ := teen_mem hx
      exact cjo_ten0 h1 (by omega)
    · intro x hx
      obtain ⟨n, h1, h2, rfl⟩ := dig_mem hx
      exact cjo_dig0 h1 h2 (by omega)
  · rw [cjo_hun0 (by omega), dig_sum (by omega) (by omega), teen_sum (by omega) h4, tens_sum (by omega) h4, cj_big (by omega), h4]
    omega
  · rw [cjo_hun0 (by omega), dig_sum (by omega) (by omega), none_sum (l := teen), none_sum (l := tens1), cj_big (by omega), h6]
    · omega
    · intro x hx
      obtain ⟨n, h1, rfl⟩ := tens_mem hx
      exact cjo_ten0 h1 (by omega)
    · intro x hx
      obtain ⟨n, h1, rfl⟩ := teen_mem hx
      exact cjo_ten0 h1 (by omega)
  · rw [cjo_hun0 (by omega), none_sum (l := dig), none_sum (l := teen), none_sum (l := tens1), cj_big (by omega), h3]
    · omega
    · intro x hx
      obtain ⟨n, h1, rfl⟩ := tens_mem hx
      exact cjo_ten0 h1 (by omega)
    · intro x hx
      obtain ⟨n, h1, rfl⟩ := teen_mem hx
      exact cjo_ten0 h1 (by omega)
    · intro x hx
      obtain ⟨n, h1, h2, rfl⟩ := dig_mem hx
      exact cjo_dig0 h1 h2 (by omega)
end Bg
set_option Elab.async false
set_option linter.all false
set_option maxRecDepth 100000
set_option maxHeartbeats 4000000
namespace Bg
theorem Ok.bnd {b : Bg} (ok : Ok b) : 0 ≤ b.t ∧ 0 ≤ b.g ∧ 1 ≤ b.r ∧ b.r ≤ 100 ∧ b.g + b.r ≤ 1000 ∧ b.g ≤ 999 := by
  obtain ⟨t0, ⟨_, h2, h3, _⟩ | ⟨_, h⟩⟩ := ok
  · omega
  · rcases h with ⟨h1, h2⟩ | ⟨h1, h2, h3⟩ | ⟨d, h1, h2, h3, h4⟩ | ⟨x, y, h1, h2, h3, h4, h5, h6⟩ | ⟨h1, h2, h3⟩ <;> omega
/-- the words that a table can have below hundred -/
def WOk : Wo → Prop
  | .low n => (0 ≤ n ∧ n < 20) ∨ ∃ k : Int, 2 ≤ k ∧ k ≤ 9 ∧ n = 10 * k
  | .hun => True
  | .sc _ => True
theorem all_ok {k : Nat} {x : Wo} (h : x ∈ all k) : WOk x := by
  rcases List.mem_cons.mp h with rfl | h
  · trivial
  rcases List.mem_append.mp h with h | h
  · obtain ⟨n, hn, rfl⟩ := List.mem_map.mp h
    have := List.mem_range.mp hn
    exact .inl ⟨by omega, by omega⟩
  rcases List.mem_append.mp h with h | h
  · obtain ⟨n, hn, rfl⟩ := List.mem_map.mp h
    have := List.mem_range.mp hn
    exact .inr ⟨(n : Int) + 2, by omega, by omega, rfl⟩
  · obtain ⟨n, hn, rfl⟩ := List.mem_map.mp h
    trivial
theorem fol_ok {b c : Bg} {x : Wo} (ok : Ok b) (hx : WOk x) (h : fol b x = some c) : Ok c := by
  obtain ⟨t0, z⟩ := ok
  have t0' := t0
  cases x with
  | hun =>
    unfold fol at h
    simp only at h
    by_cases q : 0 < b.g ∧ b.g < 10
    · rw [if_pos q] at h
      cases h
      rcases z with z | ⟨m0, z⟩
      · omega
      · exact ⟨t0, .inr ⟨m0, .inr (.inr (.inl ⟨b.g, by omega, by omega, Int.mul_comm _ _, rfl⟩))⟩⟩
    · rw [if_neg q] at h
      cases h
  | sc i =>
    unfold fol at h
    simp only at h
    by_cases q : b.g > 0 ∧ i + 1 < b.m
    · rw [if_pos q] at h
      cases h
      refine ⟨?_, .inr ⟨Nat.succ_pos i, .inl ⟨rfl, rfl⟩⟩⟩
      have := W_pos (i + 1)
      have := Int.mul_nonneg (Int.le_of_lt q.1) (Int.le_of_lt this)
      show 0 ≤ b.t + b.g * W (i + 1)
      omega
    · rw [if_neg q] at h
      cases h
  | low n =>
    unfold fol at h
    simp only at h
    by_cases q0 : n = 0
    · rw [if_pos q0] at h
      cases hb : has b with
      | true =>
        rw [hb, if_pos rfl] at h
        cases h
      | false =>
        rw [hb, if_neg Bool.false_ne_true] at h
        cases h
        exact ⟨Int.le_refl _, .inl ⟨rfl, rfl, rfl, rfl⟩⟩
    · rw [if_neg q0] at h
      by_cases q1 : n ≥ 10
      · rw [if_pos q1] at h
        by_cases q2 : b.r = 100
        · rw [if_pos q2] at h
          cases h
          rcases z with z | ⟨m0, z⟩
          · omega
          · refine ⟨t0, .inr ⟨m0, ?_⟩⟩
            obtain ⟨e, e0, e9, hg⟩ : ∃ e : Int, 0 ≤ e ∧ e ≤ 9 ∧ b.g = 100 * e := by
              rcases z with ⟨h1, _⟩ | ⟨h1, h2, h3⟩ | ⟨d, h1, h2, h3, h4⟩ | ⟨x, y, h1, h2, h3, h4, h5, h6⟩ | ⟨h1, h2, h3⟩
              · exact ⟨0, by omega, by omega, by omega⟩
              · omega
              · exact ⟨d, by omega, by omega, h3⟩
              · omega
              · omega
            rcases hx with hx | ⟨k, k2, k9, rfl⟩
            · rw [if_neg (by omega)]
              exact .inr (.inr (.inr (.inr ⟨by show 10 ≤ b.g + n; omega, by show b.g + n ≤ 999; omega, rfl⟩)))
            · rw [if_pos (by omega)]
              exact .inr (.inr (.inr (.inl ⟨e, k, e0, e9, k2, k9, by show b.g + 10 * k = _; omega, rfl⟩)))
        · rw [if_neg q2] at h
          cases h
      · rw [if_neg q1] at h
        by_cases q2 : b.r ≥ 10
        · rw [if_pos q2] at h
          cases h
          have n0 : 0 < n := by
            rcases hx with hx | ⟨k, k2, k9, rfl⟩ <;> omega
          rcases z with z | ⟨m0, z⟩
          · omega
          · refine ⟨t0, .inr ⟨m0, ?_⟩⟩
            rcases z with ⟨h1, _⟩ | ⟨h1, h2, h3⟩ | ⟨d, h1, h2, h3, h4⟩ | ⟨x, y, h1, h2, h3, h4, h5, h6⟩ | ⟨h1, h2, h3⟩
            · exact .inr (.inl ⟨by show 1 ≤ b.g + n; omega, by show b.g + n ≤ 9; omega, rfl⟩)
            · omega
            · exact .inr (.inr (.inr (.inr ⟨by show 10 ≤ b.g + n; omega, by show b.g + n ≤ 999; omega, rfl⟩)))
            · exact .inr (.inr (.inr (.inr ⟨by show 10 ≤ b.g + n; omega, by show b.g + n ≤ 999; omega, rfl⟩)))
            · omega
        · rw [if_neg q2] at h
          cases h
theorem fol_m {b c : Bg} {x : Wo} (h : fol b x = some c) : c.m ≤ b.m := by
  unfold fol at h
  split at h
  · split at h
    · split at h
      · cases h
      · cases h
        exact Nat.zero_le _
    · split at h
      · split at h
        · cases h
          exact Nat.le_refl _
        · cases h
      · split at h
        · cases h
          exact Nat.le_refl _
        · cases h
  · split at h
    · cases h
      exact Nat.le_refl _
    · cases h
  · split at h
    · rename_i q
      cases h
      show _ + 1 ≤ b.m
      omega
    · cases h
/-- how far a beginning can still go -/
def far (b : Bg) : Nat := 6 * b.m + (if b.g = 0 then (if b.m = 0 then 0 else 5) else if b.g < 10 then 4 else if b.r = 100 then 3 else if b.r = 10 then 2 else 1)
theorem fol_far {b c : Bg} {x : Wo} (ok : Ok b) (hx : WOk x) (h : fol b x = some c) : far c < far b := by
  obtain ⟨t0, z⟩ := ok
  unfold far
  cases x with
  | hun =>
    unfold fol at h
    simp only at h
    by_cases q : 0 < b.g ∧ b.g < 10
    · rw [if_pos q] at h
      cases h
      show 6 * b.m + (if b.g * 100 = 0 then _ else if b.g * 100 < 10 then _ else if (100 : Int) = 100 then 3 else _) < _
      rw [if_neg (by omega), if_neg (by omega), if_pos rfl, if_neg (by omega), if_pos q.2]
      omega
    · rw [if_neg q] at h
      cases h
  | sc i =>
    unfold fol at h
    simp only at h
    by_cases q : b.g > 0 ∧ i + 1 < b.m
    · rw [if_pos q] at h
      cases h
      show 6 * (i + 1) + (if (0 : Int) = 0 then (if i + 1 = 0 then 0 else 5) else _) < _
      rw [if_pos rfl, if_neg (by omega)]
      omega
    · rw [if_neg q] at h
      cases h
  | low n =>
    unfold fol at h
    simp only at h
    by_cases q0 : n = 0
    · rw [if_pos q0] at h
      cases hb : has b with
      | true =>
        rw [hb, if_pos rfl] at h
        cases h
      | false =>
        rw [hb, if_neg Bool.false_ne_true] at h
        cases h
        show 0 < _
        rcases z with z | ⟨m0, z⟩
        · exfalso
          unfold has at hb
          rw [z.2.2.1] at hb
          simp at hb
        · omega
    · rw [if_neg q0] at h
      have n0 : 0 < n := by
        rcases hx with hx | ⟨k, k2, k9, rfl⟩ <;> omega
      by_cases q1 : n ≥ 10
      · rw [if_pos q1] at h
        by_cases q2 : b.r = 100
        · rw [if_pos q2] at h
          cases h
          have zz : b.g = 0 ∧ 0 < b.m ∨ b.g ≥ 100 := by
            rcases z with z | ⟨m0, z⟩
            · omega
            · rcases z with ⟨h1, _⟩ | ⟨h1, h2, h3⟩ | ⟨d, h1, h2, h3, h4⟩ | ⟨x, y, h1, h2, h3, h4, h5, h6⟩ | ⟨h1, h2, h3⟩ <;> omega
          show 6 * b.m + (if b.g + n = 0 then _ else if b.g + n < 10 then _ else if (if n ≥ 20 then (10 : Int) else 1) = 100 then _ else if (if n ≥ 20 then (10 : Int) else 1) = 10 then 2 else 1) < _
          rw [if_neg (by omega), if_neg (by omega), if_neg (by split <;> omega)]
          have two : ∀ (p : Prop) [Decidable p], (if p then 2 else 1) ≤ 2 := fun p _ => by split <;> omega
          have := two ((if n ≥ 20 then (10 : Int) else 1) = 10)
          rcases zz with ⟨h1, h2⟩ | h1
          · rw [if_pos h1, if_neg (show ¬ b.m = 0 by omega)]
            omega
          · rw [if_neg (show ¬ b.g = 0 by omega), if_neg (show ¬ b.g < 10 by omega), if_pos q2]
            omega
        · rw [if_neg q2] at h
          cases h
      · rw [if_neg q1] at h
        by_cases q2 : b.r ≥ 10
        · rw [if_pos q2] at h
          cases h
          show 6 * b.m + (if b.g + n = 0 then _ else if b.g + n < 10 then 4 else if (1 : Int) = 100 then _ else if (1 : Int) = 10 then _ else 1) < _
          have zz : b.g = 0 ∧ 0 < b.m ∨ b.g ≥ 10 := by
            rcases z with z | ⟨m0, z⟩
            · omega
            · rcases z with ⟨h1, _⟩ | ⟨h1, h2, h3⟩ | ⟨d, h1, h2, h3, h4⟩ | ⟨x, y, h1, h2, h3, h4, h5, h6⟩ | ⟨h1, h2, h3⟩ <;> omega
          rcases zz with ⟨h1, h2⟩ | h1
          · rw [if_neg (show ¬ b.g + n = 0 by omega), if_pos (show b.g + n < 10 by omega), if_pos h1, if_neg (show ¬ b.m = 0 by omega)]
            omega
          · rw [if_neg (show ¬ b.g + n = 0 by omega), if_neg (show ¬ b.g + n < 10 by omega), if_neg (by decide), if_neg (by decide), if_neg (show ¬ b.g = 0 by omega), if_neg (show ¬ b.g < 10 by omega)]
            by_cases q3 : b.r = 100
            · rw [if_pos q3]
              omega
            · rw [if_neg q3, if_pos]
              · omega
              · rcases z with z | ⟨m0, z⟩
                · omega
                · rcases z with ⟨h1, _⟩ | ⟨h1, h2, h3⟩ | ⟨d, h1, h2, h3, h4⟩ | ⟨x, y, h1, h2, h3, h4, h5, h6⟩ | ⟨h1, h2, h3⟩ <;> omega
        · rw [if_neg q2] at h
          cases h
/-! ### what the program counts -/
def ovj (lo hi : Int) (b : Bg) (j : Nat) : Int := ov lo hi (b.t + b.g * W j) (b.t + (b.g + b.r) * W j) + if b.g < 10 then ov lo hi (b.t + b.g * 100 * W j) (b.t + (b.g + 1) * 100 * W j) else 0
theorem ovj_cj {lo hi : Int} {b : Bg} (ok : Ok b) (j : Nat) : ovj lo hi b j = cj (fun n => fb lo hi (b.t + n * W j)) b.g b.r := by
  obtain ⟨h1, h2, h3, h4, h5, h6⟩ := ok.bnd
  have w := W_pos j
  unfold ovj cj
  have le : ∀ {x y : Int}, x ≤ y → b.t + x * W j ≤ b.t + y * W j := fun h => Int.add_le_add_left (Int.mul_le_mul_of_nonneg_right h (Int.le_of_lt w)) _
  rw [ov_fb (le (by omega)), ov_fb (le (by omega))]
theorem cf_code {lo hi : Int} {b : Bg} (ok : Ok b) (h : b.g ≠ 0) : cf (fb lo hi) b = sumR (ovj lo hi b) b.m := by
  rw [cf_pos h]
  exact (sumR_congr b.m fun j _ => ovj_cj ok j).symm
theorem cf_code0 {lo hi : Int} {b : Bg} (h : b.g = 0) : cf (fb lo hi) b = ov lo hi b.t (b.t + W b.m) := by
  have w := W_pos b.m
  rw [ov_fb (by omega)]
  unfold cf
  rw [if_pos h]
theorem cf_out {lo hi : Int} {b : Bg} (ok : Ok b) (h : hi < b.t ∨ lo ≥ b.t + W b.m) : cf (fb lo hi) b = 0 := by
  obtain ⟨h1, h2, h3, h4, h5, h6⟩ := ok.bnd
  unfold cf
  split
  · exact fb_same (by have := W_pos b.m; omega) (by omega)
  · refine (sumR_congr b.m fun j hj => ?_).trans (sumR_zero b.m)
    have w := W_pos j
    have w2 := W_lt hj
    have lo_ : ∀ {x : Int}, 0 ≤ x → 0 ≤ x * W j := fun h => Int.mul_nonneg h (Int.le_of_lt w)
    have hi_ : ∀ {x : Int}, x ≤ 1000 → x * W j ≤ W b.m := fun h => Int.le_trans (Int.mul_le_mul_of_nonneg_right h (Int.le_of_lt w)) w2
    have le : ∀ {x y : Int}, x ≤ y → x * W j ≤ y * W j := fun h => Int.mul_le_mul_of_nonneg_right h (Int.le_of_lt w)
    have z : ∀ {x y : Int}, 0 ≤ x → x ≤ y → y ≤ 1000 → fb lo hi (b.t + y * W j) - fb lo hi (b.t + x * W j) = 0 := by
      intro x y a1 a2 a3
      have p1 := lo_ a1
      have p2 := hi_ a3
      have p3 := le a2
      exact fb_same (by omega) (by omega)
    unfold cj
    simp only
    rw [z h2 (by omega) h5]
    split
    · rw [z (by omega) (by omega) (by omega)]
      rfl
    · rfl
theorem cf_nonneg {lo hi : Int} {b : Bg} (ok : Ok b) : 0 ≤ cf (fb lo hi) b := by
  obtain ⟨h1, h2, h3, h4, h5, h6⟩ := ok.bnd
  unfold cf
  split
  · have := fb_mono (lo := lo) (hi := hi) (show b.t ≤ b.t + W b.m by have := W_pos b.m; omega)
    omega
  · refine sumR_nonneg b.m fun j _ => ?_
    have w := W_pos j
    have le : ∀ {x y : Int}, x ≤ y → b.t + x * W j ≤ b.t + y * W j := fun h => Int.add_le_add_left (Int.mul_le_mul_of_nonneg_right h (Int.le_of_lt w)) _
    unfold cj
    simp only
    have a := fb_mono (lo := lo) (hi := hi) (le (show b.g ≤ b.g + b.r by omega))
    split
    · have c := fb_mono (lo := lo) (hi := hi) (le (show b.g * 100 ≤ (b.g + 1) * 100 by omega))
      omega
    · omega
def start (k : Nat) : Bg := ⟨0, 0, 100, k + 1⟩
theorem start_ok (k : Nat) : Ok (start k) := ⟨Int.le_refl _, .inr ⟨Nat.succ_pos k, .inl ⟨rfl, rfl⟩⟩⟩
theorem start_all {lo hi : Int} {k : Nat} (h0 : 0 ≤ lo) (h1 : lo ≤ hi) (h2 : hi < W (k + 1)) : cf (fb lo hi) (start k) = hi - lo + 1 := by
  unfold cf start
  rw [if_pos rfl]
  show fb lo hi (0 + W (k + 1)) - fb lo hi 0 = _
  rw [fb_high (by omega) h1, fb_low (by omega)]
  omega
/-- the program's test of an own number -/
theorem own_code {lo hi : Int} {b : Bg} (h : lo ≤ hi) : own (fb lo hi) b = if (has b && (decide (lo ≤ b.t + b.g) && decide (b.t + b.g ≤ hi))) = true then 1 else 0 := by
  unfold own
  cases has b with
  | false =>
    rw [if_neg Bool.false_ne_true]
    rfl
  | true =>
    rw [if_pos rfl, fb_one h]
    simp only [Bool.true_and, Bool.and_eq_true, decide_eq_true_eq]
theorem own_nonneg {lo hi : Int} {b : Bg} (h : lo ≤ hi) : 0 ≤ own (fb lo hi) b := by
  rw [own_code h]
  split <;> decide
end Bg
set_option Elab.async false
set_option linter.all false
set_option maxRecDepth 100000
set_option maxHeartbeats 4000000
/-! The program's own: beginnings, one by one. -/
namespace LB
open PySem L2 Wk
open Bg (Bg)
/-- a beginning as the program holds it -/
def BgV (b : Bg) : List V := [.int b.t, .int b.g, .int b.r, .int (Bg.W b.m)]
def spHas (K : PySem.W.Frag) : Sp := fun vs H Q _ => ∃ (p : Addr) (b : Bg), vs = [.ref p] ∧ SqT K H p (BgV b) ∧ Q (.bl (Bg.has b)) H
def spOverlap : Sp := fun vs H Q _ => ∃ a e lo hi : Int, vs = [.int a, .int e, .int lo, .int hi] ∧ Q (.int (Bg.ov lo hi a e)) H
def spOwn (K : PySem.W.Frag) : Sp := fun vs H Q _ => ∃ (p : Addr) (b : Bg), vs = [.ref p] ∧ SqT K H p (BgV b) ∧ Q (.int (b.t + b.g)) H
def endsB (lo hi : Int) (b : Bg) : Bool := Bg.has b && (decide (lo ≤ b.t + b.g) && decide (b.t + b.g ≤ hi))
def spEnds (K : PySem.W.Frag) : Sp := fun vs H Q _ => ∃ (p : Addr) (b : Bg) (lo hi : Int), vs = [.ref p, .int lo, .int hi] ∧ SqT K H p (BgV b) ∧ Q (.bl (endsB lo hi b)) H
def spCount (K : PySem.W.Frag) : Sp := fun vs H Q _ => ∃ (p : Addr) (b : Bg) (lo hi : Int), vs = [.ref p, .int lo, .int hi] ∧ SqT K H p (BgV b) ∧ Bg.Ok b ∧ Q (.int (Bg.cf (Bg.fb lo hi) b)) H
section
variable {P : Program} {w : World} {K : PySem.W.Frag} {mg : Str → Option Value} {base : Heap}
end
end LB
set_option Elab.async false
set_option linter.all false
set_option maxRecDepth 100000
set_option maxHeartbeats 4000000
/-! sorted(d.items()), d a dict from texts to numbers: the pairs in the order of the texts. -/
namespace WkI
open PySem PySem.Spec PyProof.Rows L2 SrtO PySem.W
/-- v is a pair (x, M x) -/
def PairSI (h : Heap) (v : Value) (x : Str) (i : Int) : Prop := ∃ (a : Addr) (t u : Tok), v = .ref a ∧ IsTup h a #[.str x t, .int i u]
theorem PairSI.keeps {h h' : Heap} {v : Value} {x : Str} {i : Int} (p : PairSI h v x i) (k : ∀ b o, h.get? b = some o → o.cls = .type "tuple" → h'.get? b = some o) : PairSI h' v x i := by
  obtain ⟨a, t, u, e, o, ho, hc, r⟩ := p
  exact ⟨a, t, u, e, o, k _ _ ho hc, hc, r⟩
/-- the text of a pair, read off the heap -/
def kx (h : Heap) (v : Value) : Str := DT.txOf (DT.seqAt0 h (DT.refOf (some v)))
theorem PairSI.kx {h : Heap} {v : Value} {x : Str} {i : Int} (p : PairSI h v x i) : kx h v = x := by
  obtain ⟨a, t, u, rfl, p⟩ := p
  show DT.txOf (DT.seqAt0 h a) = x
  rw [DT.seqAt0_of p]
  rfl
def ltS (x y : Str) : Bool := decide (x.cps.toList < y.cps.toList)
theorem swoS {α : Type} (f : α → Str) : Swo fun v u => ltS (f v) (f u) := by
  refine ⟨fun x y h => ?_, fun x y z h1 h2 => ?_⟩
  · have a := of_decide_eq_true h
    exact decide_eq_false (List.lt_asymm a)
  · have a := of_decide_eq_false h1
    have b := of_decide_eq_false h2
    refine decide_eq_false ?_
    rw [List.not_lt] at *
    exact List.le_trans a b
theorem ltS_tri {x y : Str} (h1 : ltS x y = false) (h2 : ltS y x = false) : x = y := by
  have a := of_decide_eq_false h1
  have b := of_decide_eq_false h2
  rw [List.not_lt] at *
  have e := List.le_antisymm b a
  obtain ⟨⟨l⟩⟩ := x
  obtain ⟨⟨m⟩⟩ := y
  have e' : l = m := e
  rw [e']
theorem strs_of {h : Heap} : ∀ vs : List Value, (∀ v ∈ vs, ∃ x i, PairSI h v x i) → ∃ fs : List Value, KatTups h vs fs ∧ fs.length = vs.length ∧ ∀ f ∈ fs, ∃ (x : Str) (t : Tok), f = Value.str x t
  | [], _ => ⟨[], KatTups.nil, rfl, fun f hf => by simp at hf⟩
  | v :: vs, x => by
    obtain ⟨fs, k, hl, hi⟩ := strs_of vs fun u hu => x u (List.mem_cons_of_mem _ hu)
    obtain ⟨y, i, a, t, u, rfl, o, ho, hc, n, hd⟩ := x v (List.mem_cons_self ..)
    refine ⟨.str y t :: fs, KatTups.cons ho hc hd rfl k, by rw [List.length_cons, List.length_cons, hl], fun f hf => ?_⟩
    rcases List.mem_cons.mp hf with rfl | hf
    · exact ⟨y, t, rfl⟩
    · exact hi f hf
section
variable {prog : Program} {w : World} {A : Around} {E : Value → Shared → Prop} {s : Shared}
theorem pair_cmpS {vs : List Value} {k : Value → Str} {M : Str → Int} (hp : ∀ v ∈ vs, PairSI s.heap v (k v) (M (k v))) : SrtO.Cmp prog w A s (tuples' true) (fun p => p.1 ∈ vs) (lt2 fun v u => ltS (k v) (k u)) := by
  intro p q hm hm'
  have h1 := hp _ hm
  have h2 := hp _ hm'
  show wpAny (model prog w) A (keyLt' (tuples' true) p.1 q.1) (fun r s' => s' = s ∧ r = ltS (k p.1) (k q.1)) (fun _ _ => False) s
  generalize k p.1 = x at h1 ⊢
  generalize k q.1 = x' at h2 ⊢
  obtain ⟨a, t, u, e, o, ho, hc, n, hd⟩ := h1
  obtain ⟨a', t', u', e', o', ho', hc', n', hd'⟩ := h2
  rw [e, e']
  refine kat_lt ho hd ho' hd' ?_
  show KatLex prog w A true (decide (2 < 2)) _ [(.str x t, .str x' t'), (.int (M x) u, .int (M x') u')] 0 s
  refine kat_cons (PySem.SeqAt.EqAt.str_str (A := A) (s := s) x t x' t' prog w _ _ ?_)
  refine kat_go (fun e1 => ?_) (fun e1 => ?_)
  · have ex : x = x' := by simpa using e1
    subst ex
    refine kat_yes (kat_cons (SeqAt.EqAt.int_int (M x) u (M x) u' prog w _ _ ?_))
    have e4 : ltS x x = false := decide_eq_false (List.lt_irrefl _)
    refine kat_go (fun e2 => ?_) (fun e2 => ?_)
    · refine kat_yes (kat_nil ⟨rfl, ?_⟩)
      rw [e4]
      rfl
    · exact absurd e2 (by simp)
  · exact kat_no (PyProof.Rows.oneLt_str ⟨rfl, rfl⟩)
theorem pairs_sortableS {a : Addr} {vs : List Value} {k : Value → Str} {M : Str → Int} (h0 : 0 < vs.length) (hp : ∀ v ∈ vs, PairSI s.heap v (k v) (M (k v))) (ha : ∀ o, s.heap.get? a = some o → o.cls ≠ .type "tuple") : SortableO prog w A s a vs fun v u => ltS (k v) (k u) := by
  intro h' keep
  have hp' : ∀ v ∈ vs, PairSI h' v (k v) (M (k v)) := fun v hm => (hp v hm).keeps fun b o e c => keep b o (fun z => by subst z; exact ha o e c) e
  obtain ⟨fs, h1, h2, h3⟩ := strs_of vs fun v hm => ⟨_, _, hp' v hm⟩
  refine ⟨tuples' true, fun Q E hq => ?_, pair_cmpS hp'⟩
  refine kat_kind (T := .type "str") h1 (by omega) (fun f hm => ?_) (by rfl) ?_
  · obtain ⟨x, t, rfl⟩ := h3 f hm
    exact Looks.now
  · have e : (Value.type "str" != Value.type "tuple") = true := by first | decide +kernel | rfl | decide
    rw [e]
    exact hq
end
theorem pairs_at {P : Program} {w : World} : ∀ {es : List DictEntry} {kvs : List (Key × Value)}, Pairs (mixKind P w) es kvs → ∀ {j : Nat} {e : DictEntry}, es[j]? = some e → ∃ kv, kvs[j]? = some kv ∧ keyIs kv.1 e.key = true ∧ e.val = kv.2
  | _, _, .nil, j, e, h => by cases h
  | _, _, .cons (kv := kv) h1 h2 t, 0, e, h => by
    have e' := Option.some.inj h
    subst e'
    exact ⟨kv, rfl, h1, h2⟩
  | _, _, .cons h1 h2 t, j + 1, e, h => pairs_at t h
section
variable {X : Cx}
def rItemsK : V → List V → Hp → VK → Prop := fun x xs H Q => ∃ (a : Addr) (kvs : List (Key × V)), x = .ref a ∧ xs = [] ∧ H a = some (.dK kvs) ∧ ∀ p, H p = none → Q (.ref p) (upd H p (DX.itemsO p a))
theorem mt_itemsK : MtR X "dict.items" rItemsK := by
  intro pins s σ H x xs v us Q I rx rxs h
  obtain ⟨a, kvs, rfl, rfl, ha, q⟩ := h
  cases rx
  cases rxs
  obtain ⟨hz, hs0, vs, kv, o, es, ep, ho, hx, hdat, _⟩ := I.hok a _ ha
  refine DT.callItems (es := es) (ep := ep) hs0 ⟨o, ho, hx, hdat⟩ ?_
  have hf : H s.heap.objs.size = none := I.hok.fresh (Nat.le_refl _)
  exact ⟨.ref s.heap.objs.size, upd H s.heap.objs.size (DX.itemsO s.heap.objs.size a), I.laid (t' := s.toks) (fun b u e => Heap.get?_push_of_some _ e) (Nat.le_refl _) (DX.itemsO_ok (Heap.get?_push_size _ rfl)), rfl, q _ hf⟩
abbrev entS (e : Str × Int) : Key × V := (Sum.inr e.1, V.int e.2)
/-- sorted(d.items()) -/
def rSortItK : List V → Hp → VK → Prop := fun vs H Q => ∃ (p a : Addr) (ks : List (Str × Int)), vs = [.ref p] ∧ H p = some (DX.itemsO p a) ∧ H a = some (.dK (ks.map entS)) ∧ ks.length ≤ 1000 ∧
  ∀ (H' : Hp) (l : Addr) (ps : List (Addr × Str × Int)), Same H H' → H l = none → (ps.map (·.2)).Perm ks → (ps.map (·.2)).Pairwise (fun e f => ltS e.1 f.1 = true) → H' l = some (.lst (ps.map fun z => V.ref z.1)) →
    (∀ z ∈ ps, H z.1 = none ∧ H' z.1 = some (.tup [.str z.2.1, .int z.2.2])) → Q (.ref l) H'
theorem cr_sortedItK (hc : X.calm = true) : CallR X (.builtin "sorted") rSortItK := by
  intro pins s σ H xs us Q I r h
  obtain ⟨p, a, ks, rfl, hp, ha, h1000, q⟩ := h
  obtain rfl := Vals.ref1 r
  have view : s.heap.IsItemsView p a := (show ObjOk X.prog X.w H s.heap p (DX.itemsO p a) from I.hok p _ hp).1
  obtain ⟨hz, hs0, vs, kv, o, es, ep, ho, hx, hdat, hks, hps, hn⟩ := I.hok a _ ha
  have l1 : (ks.map entS).length = vs.length := Paired.length kv
  rw [List.length_map] at l1
  have l2 : es.size = vs.length := by
    have := Pairs.length hps
    rw [Array.length_toList] at this
    exact this
  have hh : X.A.handled = none := I.ok.hd hc
  have big : 1000 ≤ sizeLine := by decide
  refine DT.sortedI (es := es) (ep := ep) hh view ⟨o, ho, hx, hdat⟩ (by omega) fun h' tk as hk hlt hl hG => ?_
  have lak : as.length = ks.length := by omega
  have nd : as.Nodup := List.Pairwise.imp (fun h => Nat.ne_of_lt h) hG.rise
  -- the pairs that were made
  have pr : ∀ (j : Nat) (b : Addr), as[j]? = some b → ∃ (e : Str × Int) (t u : Tok), ks[j]? = some e ∧ h'.get? b = some { cls := .type "tuple", data := .seq #[Value.str e.1 t, Value.int e.2 u] } := by
    intro j b hj
    obtain ⟨en, he, hg⟩ := hG.pairs j b hj
    rw [← Array.getElem?_toList] at he
    obtain ⟨kv1, hkv, k1, k2⟩ := pairs_at hps he
    obtain ⟨e0, he0, r1, r2⟩ := DX.pget kv hkv
    rw [List.getElem?_map] at he0
    cases hkj : ks[j]? with
    | none =>
      rw [hkj] at he0
      cases he0
    | some e =>
      rw [hkj] at he0
      have ee : entS e = e0 := Option.some.inj he0
      rw [← ee] at r1 r2
      rw [← r1] at k1
      obtain ⟨t, et⟩ : ∃ t, en.key = Value.str e.1 t := relV_key k1
      rw [← k2] at r2
      obtain ⟨u, eu⟩ : ∃ u, en.val = Value.int e.2 u := r2
      rw [et, eu] at hg
      exact ⟨e, t, u, rfl, hg⟩
  have keysN : (ks.map (·.1)).Nodup := by
    have e1 : vs.map (·.1) = ks.map fun e => (Sum.inr e.1 : Key) := by
      have : ∀ {l : List (Str × Int)} {m : List (Key × Value)}, KV (l.map entS) m → m.map (·.1) = l.map fun e => (Sum.inr e.1 : Key) := by
        intro l
        induction l with
        | nil =>
          intro m h
          cases h
          rfl
        | cons x l ih =>
          intro m h
          cases h with
          | cons h t =>
            rw [List.map_cons, List.map_cons, ih t, ← h.1]
      exact this kv
    rw [e1] at hn
    have e2 : (ks.map fun e => (Sum.inr e.1 : Key)) = (ks.map (·.1)).map fun x => (Sum.inr x : Key) := by
      rw [List.map_map]
      rfl
    rw [e2] at hn
    exact (List.pairwise_map.mp hn).imp fun h z => h (by rw [z])
  -- each text's number
  let M : Str → Int := fun x => ((ks.find? fun e => decide (e.1 = x)).map (·.2)).getD 0
  have hM : ∀ e ∈ ks, M e.1 = e.2 := by
    intro e he
    have : ∀ l : List (Str × Int), (l.map (·.1)).Nodup → e ∈ l → l.find? (fun f => decide (f.1 = e.1)) = some e := by
      intro l
      induction l with
      | nil => intro _ h; cases h
      | cons x l ih =>
        intro n h
        rw [List.map_cons, List.nodup_cons] at n
        rcases List.mem_cons.mp h with z | z
        · subst z
          rw [List.find?_cons_of_pos (by simp)]
        · rw [List.find?_cons_of_neg, ih n.2 z]
          intro c
          have c' := of_decide_eq_true c
          exact n.1 (by rw [c']; exact List.mem_map.mpr ⟨e, z, rfl⟩)
    show ((ks.find? fun f => decide (f.1 = e.1)).map (·.2)).getD 0 = e.2
    rw [this ks keysN he]
    rfl
  -- the heap of the sort
  have hob : (h'.push { cls := .type "list", data := .seq (as.map Value.ref).toArray }).get? h'.objs.size = some (seqObj "list" (as.map Value.ref).toArray 0) := Heap.get?_push_size _ rfl
  have kb : ∀ b o, s.heap.get? b = some o → (h'.push { cls := .type "list", data := .seq (as.map Value.ref).toArray }).get? b = some o := fun b o e => Heap.get?_push_of_some _ (hk b o e)
  have ne0 : ∀ b o, h'.get? b = some o → b ≠ h'.objs.size := fun b o e => Nat.ne_of_lt (Heap.lt_size e)
  generalize hh2 : h'.push { cls := .type "list", data := .seq (as.map Value.ref).toArray } = h2 at hob kb ⊢
  have ka : ∀ b o, h'.get? b = some o → h2.get? b = some o := fun b o e => by rw [← hh2]; exact Heap.get?_push_of_some _ e
  have pin : ∀ (j : Nat) (b : Addr), as[j]? = some b → ∃ e : Str × Int, ks[j]? = some e ∧ PairSI h2 (.ref b) e.1 e.2 := by
    intro j b hj
    obtain ⟨e, t, u, he, hg⟩ := pr j b hj
    exact ⟨e, he, b, t, u, rfl, _, ka _ _ hg, rfl, 0, rfl⟩
  have tx : ∀ (j : Nat) (b : Addr) (e : Str × Int), as[j]? = some b → ks[j]? = some e → kx h2 (.ref b) = e.1 := by
    intro j b e hj he
    obtain ⟨e', he', hp'⟩ := pin j b hj
    have ee : e' = e := Option.some.inj (he'.symm.trans he)
    rw [← ee]
    exact hp'.kx
  have at_ : ∀ v ∈ as.map Value.ref, ∃ (j : Nat) (b : Addr) (e : Str × Int), v = .ref b ∧ as[j]? = some b ∧ ks[j]? = some e := by
    intro v hv'
    obtain ⟨b, hb, rfl⟩ := List.mem_map.mp hv'
    obtain ⟨j, hj⟩ := List.mem_iff_getElem?.mp hb
    obtain ⟨e, he, _⟩ := pin j b hj
    exact ⟨j, b, e, rfl, hj, he⟩
  have pairs : ∀ v ∈ as.map Value.ref, PairSI h2 v (kx h2 v) (M (kx h2 v)) := by
    intro v hv
    obtain ⟨j, b, e, rfl, hj, he⟩ := at_ v hv
    obtain ⟨e', he', hp'⟩ := pin j b hj
    have ee : e' = e := Option.some.inj (he'.symm.trans he)
    subst ee
    rw [tx j b e' hj he, hM e' (List.mem_of_getElem? he)]
    exact hp'
  refine wpAny_call_entry PyProof.Rows.slot_list_sort ⟨_, hob, rfl⟩ PyProof.Rows.entry_list_sort
    (SrtO.list_sort_ord (s := { s with heap := h2, toks := tk }) (swoS (kx h2)) hob (by rw [List.length_map]; omega) (fun hl2 => pairs_sortableS (M := M) (by omega) pairs fun o e => ?_) fun out o1 o2 => ⟨.none, rfl, ?_⟩) (PyProof.Rows.args_list_sort _)
  · have e' : some o = some (seqObj "list" (as.map Value.ref).toArray 0) := e.symm.trans hob
    cases e'
    intro c
    exact absurd (Value.type.inj c) (by decide)
  · show EP X pins σ Q (.ref h'.objs.size) { s with heap := sortedHeap h2 h'.objs.size (as.map Value.ref) out.toArray, toks := tk }
    obtain ⟨zs, pz, ez⟩ := perm_lift (fun z : Addr × Str × Int => Value.ref z.1) o2.perm (as.zip ks) (by
      rw [show (fun z : Addr × Str × Int => Value.ref z.1) = Value.ref ∘ Prod.fst from rfl, ← List.map_map, List.map_fst_zip (by rw [lak]; exact Nat.le_refl _)])
    have idx : ∀ z ∈ zs, ∃ j : Nat, as[j]? = some z.1 ∧ ks[j]? = some z.2 := by
      intro z' hz'
      obtain ⟨j, hj⟩ := List.mem_iff_getElem?.mp (pz.mem_iff.mp hz')
      exact ⟨j, List.getElem?_zip_eq_some.mp hj⟩
    have hperm : (zs.map (·.2)).Perm ks := by
      have e := pz.map (·.2)
      have m2 : (as.zip ks).map (·.2) = ks := List.map_snd_zip (by rw [lak]; exact Nat.le_refl _)
      rw [m2] at e
      exact e
    have hkn : ((zs.map (·.2)).map (·.1)).Nodup := (hperm.map (·.1)).nodup_iff.mpr keysN
    have hsort : (zs.map (·.2)).Pairwise (fun e f => ltS e.1 f.1 = true) := by
      have o1' : (zs.map fun z => Value.ref z.1).Pairwise fun x y => ltS (kx h2 y) (kx h2 x) = false := by
        rw [ez]
        exact o1
      rw [List.pairwise_map] at o1'
      rw [List.map_map] at hkn
      have both := List.Pairwise.and o1' (List.pairwise_map.mp hkn)
      rw [List.pairwise_map]
      refine List.Pairwise.imp_of_mem (fun {x y} hx hy h => ?_) both
      obtain ⟨j, j1, j2⟩ := idx x hx
      obtain ⟨i, i1, i2⟩ := idx y hy
      obtain ⟨h1, h3⟩ := h
      rw [tx j _ _ j1 j2, tx i _ _ i1 i2] at h1
      cases e : ltS x.2.1 y.2.1 with
      | true => rfl
      | false => exact absurd (ltS_tri e h1) h3
    -- behind the sort
    have kF : ∀ b o, b ≠ h'.objs.size → h2.get? b = some o → (sortedHeap h2 h'.objs.size (as.map Value.ref) out.toArray).get? b = some o := fun b o hb e => (PyProof.Rows.sortedHeap_old hb (Heap.lt_size e)).trans e
    have kS : ∀ b o, s.heap.get? b = some o → (sortedHeap h2 h'.objs.size (as.map Value.ref) out.toArray).get? b = some o := fun b o e => kF b o (ne0 _ _ (hk b o e)) (kb b o e)
    obtain ⟨eF, heF⟩ := PyProof.Rows.sortedHeap_at (vs := as.map Value.ref) (out := out.toArray) hob
    have I1 : Inv X pins σ H { s with heap := sortedHeap h2 h'.objs.size (as.map Value.ref) out.toArray, toks := tk } := I.kept (t' := tk) kS
    have hn0 : H h'.objs.size = none := I.hok.fresh (Nat.le_of_lt hlt)
    have hlen : (zs.map fun z => V.ref z.1).length ≤ sizeLine := by
      have e := hperm.length_eq
      rw [List.length_map] at e
      rw [List.length_map]
      omega
    have rv : Vals (zs.map fun z => V.ref z.1) out := by
      rw [← ez]
      exact vals_maps (fun z : Addr × Str × Int => V.ref z.1) (fun z => Value.ref z.1) zs fun _ _ => rfl
    have I2 : Inv X pins σ (upd H h'.objs.size (.lst (zs.map fun z => V.ref z.1))) { s with heap := sortedHeap h2 h'.objs.size (as.map Value.ref) out.toArray, toks := tk } :=
      I1.take (h' := sortedHeap h2 h'.objs.size (as.map Value.ref) out.toArray) (t' := tk) (fun b ob _ e => e) (I.fpOk (Nat.le_of_lt hlt) hn0) ⟨hlen, out, eF, rv, heF⟩
    obtain ⟨H2, I3, g, qt⟩ := DX.takeT (P := fun b vs => ∃ (j : Nat) (e : Str × Int), as[j]? = some b ∧ ks[j]? = some e ∧ vs = [.str e.1, .int e.2]) I as _ I2 nd fun b hb => by
      obtain ⟨j, hj⟩ := List.mem_iff_getElem?.mp hb
      obtain ⟨e, t, u, he, hg⟩ := pr j b hj
      have hbl : s.heap.objs.size ≤ b := Nat.le_of_lt (hG.above b hb)
      refine ⟨hbl, ?_, [.str e.1, .int e.2], ⟨j, e, hj, he, rfl⟩, fun H3 => ⟨(by rw [sizeLine_eq]; show 2 ≤ 16777216; omega), [Value.str e.1 t, Value.int e.2 u], .cons ⟨t, rfl⟩ (.cons ⟨u, rfl⟩ .nil), ⟨_, kF _ _ (ne0 _ _ hg) (ka _ _ hg), rfl, 0, rfl⟩⟩⟩
      rw [upd_ne (ne0 _ _ hg)]
      exact I.hok.fresh hbl
    have gr : ∀ b o, H b = some o → H2 b = some o := fun b o e => g b o (by rw [upd_ne (ne_of_none e hn0)]; exact e)
    refine ⟨.ref h'.objs.size, H2, I3, rfl, q H2 h'.objs.size zs gr hn0 hperm hsort (g _ _ upd_same) fun z' hz' => ?_⟩
    obtain ⟨i, i1, i2⟩ := idx z' hz'
    refine ⟨I.hok.fresh (Nat.le_of_lt (hG.above _ (List.mem_of_getElem? i1))), ?_⟩
    obtain ⟨vs, ⟨j, e, j1, j2, ev⟩, hH⟩ := qt z'.1 (List.mem_of_getElem? i1)
    have eij : i = j := (List.getElem?_inj (List.getElem?_eq_some_iff.mp i1).1 nd).mp (i1.trans j1.symm)
    subst eij
    have ee : e = z'.2 := Option.some.inj (j2.symm.trans i2)
    rw [ev, ee] at hH
    exact hH
end
end WkI
set_option Elab.async false
set_option linter.all false
set_option maxRecDepth 100000
set_option maxHeartbeats 4000000
/-! The program's own: the words of a table, and how a beginning goes on. -/
namespace LB
open PySem L2 Wk
open Bg (Bg Wo)
theorem _root_.L2.Same.tp {K : PySem.W.Frag} {H H' : Hp} {a : Addr} {xs : List V} (e : Same H H') (h : SqT K H a xs) : SqT K H' a xs := by
  rcases h with (h | ⟨o, h⟩) | h
  · exact .inl (.inl (e _ _ h))
  · exact .inl (.inr ⟨o, e _ _ h⟩)
  · exact .inr h
theorem same_new {H : Hp} {a : Addr} {x : HO} (n : H a = none) : Same H (upd H a x) := fun b o e => by
  rw [upd_ne (ne_of_none e n)]
  exact e
/-! ### the words of a table -/
def enumW (f : Nat → Wo) (l : List Str) : List (Str × Wo) := l.zipIdx.map fun e => (e.1, f e.2)
theorem enumW_snoc (f : Nat → Wo) {l : List Str} {i : Nat} {x : Str} (h : l[i]? = some x) : enumW f (l.take (i + 1)) = enumW f (l.take i) ++ [(x, f i)] := by
  have il := (List.getElem?_eq_some_iff.mp h).1
  unfold enumW
  rw [List.take_add_one, h, List.zipIdx_append, List.map_append]
  have e : (l.take i).length = i := by
    rw [List.length_take]
    omega
  rw [e]
  show _ ++ [(x, f (0 + i))] = _
  rw [Nat.zero_add]
theorem enumW_fst (f : Nat → Wo) (l : List Str) : (enumW f l).map (·.1) = l := by
  unfold enumW
  rw [List.map_map]
  exact List.zipIdx_map_fst 0 l
theorem enumW_snd (f : Nat → Wo) (l : List Str) : (enumW f l).map (·.2) = (List.range l.length).map f := by
  unfold enumW
  rw [List.map_map, show ((fun e : Str × Wo => e.2) ∘ fun e : Str × Nat => (e.1, f e.2)) = f ∘ Prod.snd from rfl, ← List.map_map, List.zipIdx_map_snd, List.range_eq_range']
theorem enumW_len (f : Nat → Wo) (l : List Str) : (enumW f l).length = l.length := by
  unfold enumW
  rw [List.length_map, List.length_zipIdx]
def voc (ones tens : List Str) (hun : Str) (scales : List Str) : List (Str × Wo) :=
  (hun, .hun) :: (enumW (fun i => .low (i : Int)) ones ++ (enumW (fun i => .low (10 * ((i : Int) + 2))) tens ++ enumW .sc scales))
def entW (e : Str × Wo) : Key × V := (Sum.inr e.1, V.int e.2.val)
def entI (e : Str × Wo) : Str × Int := (e.1, e.2.val)
theorem entW_is (l : List (Str × Wo)) : l.map entW = (l.map entI).map WkI.entS := by
  rw [List.map_map]
  rfl
theorem voc_fst (ones tens : List Str) (hun : Str) (scales : List Str) : (voc ones tens hun scales).map (·.1) = hun :: (ones ++ (tens ++ scales)) := by
  unfold voc
  rw [List.map_cons, List.map_append, List.map_append, enumW_fst, enumW_fst, enumW_fst]
theorem voc_snd {ones tens : List Str} {hun : Str} {scales : List Str} (l1 : ones.length = 20) (l2 : tens.length = 8) : (voc ones tens hun scales).map (·.2) = Bg.all scales.length := by
  unfold voc
  rw [List.map_cons, List.map_append, List.map_append, enumW_snd, enumW_snd, enumW_snd, l1, l2]
  rfl
theorem voc_len (ones tens : List Str) (hun : Str) (scales : List Str) : (voc ones tens hun scales).length = 1 + (ones.length + (tens.length + scales.length)) := by
  rw [← List.length_map (·.1), voc_fst, List.length_cons, List.length_append, List.length_append]
  omega
theorem perm_hun (ones tens : List Str) (hun : Str) (scales : List Str) : (hun :: (ones ++ (tens ++ scales))).Perm (ones ++ (tens ++ hun :: scales)) := by
  have a : (hun :: (tens ++ scales)).Perm (tens ++ hun :: scales) := List.perm_middle.symm
  have b : (hun :: (ones ++ (tens ++ scales))).Perm (ones ++ (hun :: (tens ++ scales))) := List.perm_middle.symm
  exact b.trans (List.Perm.append_left ones a)
theorem val_no {l : List (Str × Wo)} {x : Str} (h : ¬ x ∈ l.map (·.1)) : valV (l.map entW) (Sum.inr x : Key) = none := by
  unfold valV
  rw [List.find?_eq_none.mpr]
  · rfl
  · intro p hp
    obtain ⟨y, hy, rfl⟩ := List.mem_map.mp hp
    simp only [decide_eq_true_eq]
    intro e
    exact h (List.mem_map.mpr ⟨y, hy, Sum.inr.inj e⟩)
/-- one word more in the dict -/
theorem put_word {l : List (Str × Wo)} {x : Str} {o : Wo} (h : ¬ x ∈ l.map (·.1)) : putK (l.map entW) (Sum.inr x : Key) (.int o.val) = (l ++ [(x, o)]).map entW := by
  rw [putK_new _ (val_no h), List.map_append]
  rfl
def spWorths : Sp := fun vs H Q _ => ∃ (t o te sc : Addr) (ones tens : List Str) (hun : Str) (scales : List Str), vs = [.ref t] ∧ TabAt H t ones tens hun scales o te sc ∧ ones.length ≤ 100 ∧ tens.length ≤ 100 ∧ scales.length ≤ 500 ∧
  (ones ++ (tens ++ hun :: scales)).Nodup ∧ ∀ p H', H p = none → Same H H' → H' p = some (.dK ((voc ones tens hun scales).map entW)) → Q (.ref p) H'
section
variable {P : Program} {w : World} {K : PySem.W.Frag} {mg : Str → Option Value} {base : Heap}
theorem str_at {l : List Str} {i : Nat} {y : V} (h : (l.map V.str)[i]? = some y) : ∃ z, l[i]? = some z ∧ y = .str z := by
  rw [List.getElem?_map] at h
  cases q : l[i]? with
  | none =>
    rw [q] at h
    cases h
  | some z =>
    rw [q] at h
    exact ⟨z, rfl, (Option.some.inj h).symm⟩
end
end LB
set_option Elab.async false
set_option linter.all false
set_option maxRecDepth 100000
set_option maxHeartbeats 4000000
/-! set(list of texts) and sorted(set of texts), of any number below the scan's bound. -/
namespace Wk
open PySem PySem.Spec PyProof.Rows L2 PySem.Froz

/-- the payload holds the texts l, each once; its table rises and can be walked -/
structure TxR (P : Program) (w : World) (D : SD) (l : List Str) : Prop where
  ok : TxOk P w D l
  nd : l.Nodup
  ris : Ris D.2.2.place.toList
  led : w.params.followText "set-order" = true ∨ D.2.2.led = true

theorem tailRis {ep : Nat} {es1 : Array (Int × Value)} {t2 : SetTable} {b : Bool} (r : Ris t2.place.toList) : Ris (tailTx ep es1 t2 b).2.2.place.toList := by
  unfold tailTx
  split
  · exact relayAll_ris t2 es1 _
  · exact r
theorem tailLed {ep : Nat} {es1 : Array (Int × Value)} {t2 : SetTable} {b : Bool} : (tailTx ep es1 t2 b).2.2.led = t2.led := by
  unfold tailTx
  split
  · exact relayAll_led t2 es1 _
  · rfl
theorem addRis {w : World} {D : SD} {h : Int} {v : Value} (r : Ris D.2.2.place.toList) : Ris (addTx h v D).2.2.place.toList := by
  unfold addTx
  refine tailRis ?_
  have q := layNew_ris D.2.2 D.1 h v r
  split
  · exact q
  · exact q
theorem addLed {D : SD} {h : Int} {v : Value} : (addTx h v D).2.2.led = D.2.2.led := by
  unfold addTx
  refine tailLed.trans ?_
  have q := layNew_led D.2.2 D.1 h v
  split
  · exact q
  · exact q
theorem TxR.more {P : Program} {w : World} {D : SD} {l : List Str} (R : TxR P w D l) {k : Str} (u : Tok) (hk : k ∉ l) : TxR P w (addTx (hashStr w k) (.str k u) D) (k :: l) :=
  ⟨add_ok u R.ok, List.nodup_cons.mpr ⟨hk, R.nd⟩, addRis (w := w) R.ris, R.led.imp id fun e => addLed.trans e⟩
/-- an empty set's payload -/
def tx0 (w : World) : SD := (#[], 0, .fresh 0 0 (!w.params.followText "set-order"))
theorem TxR.zero (P : Program) (w : World) : TxR P w (tx0 w) [] :=
  ⟨TxOk.nil (by rfl), List.nodup_nil, List.Pairwise.nil, by
    show _ ∨ (!w.params.followText "set-order") = true
    cases w.params.followText "set-order"
    · exact .inr rfl
    · exact .inl rfl⟩

section
variable {P : Program} {w : World} {A : Around} {E : Value → Shared → Prop} {s : Shared}
/-- a text goes in, whether it is there or not -/
theorem addTxt {a : Addr} {D : SD} {l : List Str} {k : Str} {u : Tok} {Q : Bool → Shared → Prop} (ho : s.heap.get? a = some (sObj "set" D)) (R : TxR P w D l) (room : l.length + 1 < scanBound)
    (h : ∀ (r : Bool) (h' : Heap) (D' : SD) (l' : List Str), Heap.SameBut a s.heap h' → h'.get? a = some (sObj "set" D') → TxR P w D' l' → (∀ x, x ∈ l' ↔ x ∈ l ∨ x = k) → l'.length ≤ l.length + 1 → Q r { s with heap := h' }) :
    wpAny (model P w) A (setAddHashed a (.str k u) (hashStr w k)) Q E s := by
  by_cases hk : k ∈ l
  · have keep := h false s.heap D l (Heap.SameBut.refl a s.heap) ho R (fun x => ⟨.inl, fun z => z.elim id fun e => e ▸ hk⟩) (by omega)
    obtain ⟨es, ep, t⟩ := D
    have F := R.ok
    have dat : (sObj "set" (es, ep, t)).data = .set es ep t := rfl
    have fit : t.fits es.size = true := F.fit
    have els : ElemsOf (PySem.strKind P w) es.toList := F.el
    have cnt : es.size = l.length := F.sz
    obtain ⟨e, he, pe⟩ := (F.mem k).mp hk
    unfold setAddHashed setAddHashedIn
    refine wpAny_holding (wpAny_bind (wpAny_setState_of ho dat fit ?_))
    dsimp only
    rw [byScan_of rfl (by omega) els]
    simp only [↓reduceIte]
    unfold setAddByScan
    refine wpAny_bind (wpAny_bind (wpAny_rule ?_))
    refine wpAny_bind (wpAny_setScan_of (knd := PySem.strKind P w) (k := k) (is_str k u) ho dat fit els ?_)
    cases hf : List.findIdx? (fun e => (PySem.strKind P w).is k e.2) es.toList with
    | none =>
      have q := List.findIdx?_eq_none_iff.mp hf e he
      rw [pe] at q
      cases q
    | some j => exact wpAny_pure (wpAny_pure keep)
  · refine add_x ho R.ok hk room ?_
    have at' : (s.heap.update a (fun _ => sObj "set" (addTx (hashStr w k) (.str k u) D))).get? a = some (sObj "set" (addTx (hashStr w k) (.str k u) D)) := get_upd _ ho rfl
    exact h true _ _ (k :: l) (Heap.SameBut.update s.heap a _) at' (R.more u hk) (fun x => by rw [List.mem_cons]; exact Or.comm) (Nat.le_refl _)

/-- the loop of an update by texts -/
theorem loopTxt {I : Addr} {fp wr : List Addr} {G : Array GenState → Array GenState → Prop} {n : Nat} {Pv : Nat → Value → Prop} {St : Nat → Shared → Prop} {R : Result → Shared → Prop}
    (W : WalksS P w A.in1 I fp wr G n Pv St) (b : Addr) (hb : b ∉ fp) (xs : List Str) (hn : n = xs.length) (room : xs.length + 1 < scanBound) (hv : ∀ i v, Pv i v → ∃ x t, xs[i]? = some x ∧ v = .str x t) :
    ∀ (k i : Nat) (s : Shared), n - i = k → i ≤ n → St i s → (∃ D l, s.heap.get? b = some (sObj "set" D) ∧ TxR P w D l ∧ (∀ x, x ∈ l ↔ x ∈ xs.take i) ∧ l.length ≤ i) →
      (∀ s' D l, Moved (b :: wr) G s s' → s'.heap.get? b = some (sObj "set" D) → TxR P w D l → (∀ x, x ∈ l ↔ x ∈ xs) → l.length ≤ n → R (.ok (.ret .none)) s') →
      codeAny (model P w) A (.builtin "set.update.loop" ⟨[.ref b, .ref I], []⟩) R s := by
  have hbw : b ∉ wr := fun z => hb (W.sub _ z)
  have wider : ∀ c ∈ wr, c ∈ b :: wr := fun c hc => List.mem_cons_of_mem _ hc
  intro k
  induction k with
  | zero =>
    intro i s hk hi hst ⟨D, l, ho, T, hl, hc⟩ hR
    obtain rfl : i = n := by omega
    refine codeAny_builtin F.entry_set_update_loop ?_
    rw [Around.under_plainId F.plain_set_update_loop _]
    show wpAny _ A.in1 (pyNext (.ref I) >>= _) _ _ s
    refine wpAny_bind (W.done s _ _ hst fun s1 hm => ?_)
    show wpAny _ A.in1 (ret Value.none) _ _ s1
    rw [List.take_of_length_le (by omega)] at hl
    exact wpAny_pure (hR s1 D l (hm.mono wider) (hm.heap b _ hbw ho) T hl hc)
  | succ k ih =>
    intro i s hk hi hst ⟨D, l, ho, T, hl, hc⟩ hR
    have hlt : i < n := by omega
    refine codeAny_builtin F.entry_set_update_loop ?_
    rw [Around.under_plainId F.plain_set_update_loop _]
    show wpAny _ A.in1 (pyNext (.ref I) >>= _) _ _ s
    refine wpAny_bind (W.item i s _ _ hlt hst fun v s1 hP hst1 hm => ?_)
    obtain ⟨x, t, hx, rfl⟩ := hv i v hP
    show wpAny _ A.in1 (holding [Value.str x t] (setAdd b (.str x t)) >>= _) _ _ s1
    refine wpAny_bind (wpAny_holding ?_)
    unfold setAdd
    refine wpAny_holding (wpAny_bind ((PySem.strKind P w).pyHash (k := x) (is_str x t) ?_))
    refine addTxt (s := { s1 with toks := s1.toks + 1 }) (hm.heap b _ hbw ho) T (by omega) fun r h2 D2 l2 sb ho2 T2 hm2 hc2 => ?_
    have hl2 : ∀ y, y ∈ l2 ↔ y ∈ xs.take (i + 1) := fun y => by
      rw [hm2 y, hl y, List.take_add_one, hx]
      simp [List.mem_append]
    refine wpAny_pure ⟨plainId_quiet F.plain_set_update_loop _, ih (i + 1) _ (by omega) hlt (W.frame _ s1 _ _ hst1 (Nat.le_succ _) fun c hcf o e => ?_) ⟨D2, l2, ho2, T2, hl2, by omega⟩ fun s3 D3 l3 hm3 ho3 T3 hl3 hc3 => ?_⟩
    · rw [sb.2 c (fun z : c = b => hb (z ▸ hcf))]; exact e
    · refine hR s3 D3 l3 (Moved.trans W.gtrans ((hm.mono wider).then_heap (Nat.le_succ _) fun c o hcn e => ?_) hm3) ho3 T3 hl3 hc3
      rw [sb.2 c (fun z : c = b => hcn (z ▸ List.mem_cons_self))]; exact e
end
end Wk
set_option Elab.async false
set_option linter.all false
set_option maxRecDepth 100000
set_option maxHeartbeats 4000000
/-! the calls set(xs) and sorted(set) for texts -/
namespace Wk
open PySem PySem.Spec PyProof.Rows L2 PySem.Froz
section
variable {P : Program} {w : World} {A : Around} {E : Value → Shared → Prop} {s : Shared}
/-- what `set` makes first -/
def bare0 (w : World) : Obj := { cls := .type "set", dict := none, data := .set #[] 0 (.fresh 0 0 (!w.params.followText "set-order")) }
theorem setOfTxt {l : Addr} {its : Array Value} (xs : List Str) {Q : Value → Shared → Prop} (cold : A.handled = none) (hl : s.heap.IsList l its) (are : StrsAre its.toList xs) (room : xs.length + 1 < scanBound)
    (h : ∀ (h' : Heap) (tk : Nat) (D : SD) (l' : List Str), h'.get? s.heap.objs.size = some (sObj "set" D) → TxR P w D l' → (∀ x, x ∈ l' ↔ x ∈ xs) → l'.length ≤ xs.length →
      (∀ b o, s.heap.get? b = some o → h'.get? b = some o) → Q (.ref s.heap.objs.size) { s with heap := h', toks := tk }) :
    wpAny (model P w) A (call (.type "set") [.ref l]) Q E s := by
  have many : its.size = xs.length := by
    have q := StrsAre.len_eq are
    rw [Array.length_toList] at q
    exact q
  obtain ⟨c, tl, hmro⟩ := F.called_set.mro
  have made := F.called_set.made
  have sub := F.called_set.sub
  refine wpAny_call (codeAny_of_tree ?_)
  show wpAny _ _ (callAny (.type "set") _) _ _ _
  refine wpAny_pure ⟨Code.quiet_builtin _ (by decide +kernel), codeAny_builtin F.entry_type_call ?_⟩
  rw [Around.under_plain (weight_type_call_type "set" [.ref l] []) rfl]
  have t1 := F.called_set.notType
  have t2 := F.called_set.canCreate
  have t3 := F.typeCall_set_1 (.ref l)
  repeat (any_goals (first | assumption | wp_step))
  refine codeAny_mono (code_set_led1 (.ref l) (E := E) (Q₁ := fun z s₁ => z = .ref s.heap.objs.size ∧ s₁ = { s with heap := s.heap.push (bare0 w) }) ⟨rfl, rfl⟩) fun r s₁ hr => ?_
  cases r with
  | error e => exact hr
  | ok fl =>
    cases fl with
    | ret z =>
      obtain ⟨rfl, rfl⟩ := hr
      have at0 : (s.heap.push (bare0 w)).get? s.heap.objs.size = some (bare0 w) := Heap.get?_push_size _ rfl
      have ty : Shared.TypeIs { s with heap := s.heap.push (bare0 w) } (.ref s.heap.objs.size) "set" := ⟨_, at0, rfl⟩
      have i1 := F.called_set.init.lookup
      have i2 := F.called_set.init.bind (.ref s.heap.objs.size)
      repeat (any_goals (first | assumption | wp_step))
      refine codeAny_mono (codeAny_call_builtin (R := wants (fun r s₂ => r = .none ∧ ∃ h' tk D l', s₂ = { s with heap := h', toks := tk } ∧ h'.get? s.heap.objs.size = some (sObj "set" D) ∧ TxR P w D l' ∧ (∀ x, x ∈ l' ↔ x ∈ xs) ∧ l'.length ≤ xs.length ∧
          (∀ b o, s.heap.get? b = some o → h'.get? b = some o)) E) F.called_set.init.plain F.entry_set_init (check_set_init_1 ty ?_)) fun r₂ s₂ hr₂ => ?_
      · obtain ⟨ol, hol, hcl, nl, hdl⟩ := hl
        obtain ⟨oc, od, oD, os⟩ := ol
        simp only at hcl hdl
        subst hcl; subst hdl
        have hol' : (s.heap.push (bare0 w)).get? l = some { cls := .type "list", dict := od, data := .seq its nl, slots := os } := Heap.get?_push_of_some _ hol
        have u1 := F.sub_list_set
        have u2 := F.sub_list_frozenset
        have u3 : (Value.type "list" == Value.type "dict") = false := by decide
        have isl : (s.heap.push (bare0 w)).IsList l its := ⟨_, hol', rfl, nl, rfl⟩
        unfold Builtin.«set.__init__» noKeywords Builtin.Frozenset.updateFrom
        generalize hPI : pyIter = PI
        wp_walk
        subst hPI
        refine wpAny_pyIter_list isl ?_
        refine wpAny_bind (wpAny_runValue ?_)
        have lless : l < s.heap.objs.size := Heap.lt_size hol
        have cold3 : A.in1.in1.in1.handled = none := by simp [cold]
        have sz : (s.heap.push (bare0 w)).objs.size = s.heap.objs.size + 1 := Heap.size_push ..
        have neI : l ≠ (s.heap.push (bare0 w)).objs.size := by rw [sz]; exact Nat.ne_of_lt (Nat.lt_succ_of_lt lless)
        have apart : s.heap.objs.size ∉ [(s.heap.push (bare0 w)).objs.size, l] := by
          rw [sz]
          simp only [List.mem_cons, List.not_mem_nil, or_false, not_or]
          exact And.intro (Nat.ne_of_lt (Nat.lt_succ_self _)) (Nat.ne_of_gt lless)
        have each : ∀ (i : Nat) (v : Value), its[i]? = some v → ∃ x t, xs[i]? = some x ∧ v = .str x t := fun i v hv => by
          have hi : i < xs.length := by rw [← many]; exact (Array.getElem?_eq_some_iff.mp hv).1
          obtain ⟨t, e⟩ := SS.strs_at are i v (by rw [Array.getElem?_toList]; exact hv)
          refine ⟨xs[i], t, List.getElem?_eq_getElem hi, ?_⟩
          rw [e, List.getD_eq_getElem?_getD, List.getElem?_eq_getElem hi] <;> rfl
        refine loopTxt ((Walks.list cold3 _ l neI its).toS) s.heap.objs.size apart xs many room each (its.size - 0) 0 _ (by omega) (Nat.zero_le _) ⟨⟨_, Heap.get?_push_size _ rfl, rfl, rfl⟩, (isl.push _)⟩ ?first ?last
        case first =>
          exact ⟨tx0 w, [], Heap.get?_push_of_some _ at0, TxR.zero P w, fun x => by simp, Nat.le_refl _⟩
        case last =>
          intro s' D l' hm ho T hl' hc'
          obtain ⟨h', g', d', tk', os'⟩ := s'
          have eg : g' = s.gens := hm.gens
          have ed : d' = s.drawn := hm.drawn
          have eo : os' = s.os := hm.os
          subst eg; subst ed; subst eo
          show wpAny _ _ _ _ _ _
          refine wpAny_pure ?_
          show wpAny _ _ (ret Value.none) _ _ _
          rw [many] at hc'
          refine wpAny_pure ⟨rfl, h', tk', D, l', rfl, ho, T, hl', hc', fun b o e => ?_⟩
          have b0 : b < s.heap.objs.size := Heap.lt_size e
          refine hm.heap b o ?_ (Heap.get?_push_of_some _ (Heap.get?_push_of_some _ e))
          simp only [List.mem_cons, List.not_mem_nil, or_false, not_or]
          exact ⟨Nat.ne_of_lt b0, by rw [sz]; exact Nat.ne_of_lt (Nat.lt_succ_of_lt b0)⟩
      · cases r₂ with
        | error e => exact hr₂
        | ok fl₂ =>
          cases fl₂ with
          | ret r =>
            obtain ⟨rfl, h', tk, D, l', rfl, ho, T, hl', hc', old⟩ := hr₂
            repeat (any_goals (first | assumption | wp_step))
            exact h _ _ _ _ ho T hl' hc' old
          | _ => exact hr₂.elim
    | _ => exact hr.elim
end
end Wk
set_option Elab.async false
set_option linter.all false
set_option maxRecDepth 100000
set_option maxHeartbeats 4000000
/-! sorted(set of texts), and both as rules -/
namespace Wk
open PySem PySem.Spec PyProof.Rows L2 PySem.Froz
theorem perm_of_fill {α : Type} [DecidableEq α] : ∀ (l m : List α), l.Nodup → (∀ x ∈ l, x ∈ m) → m.length ≤ l.length → m.Perm l
  | [], m, _, _, h => by
    have e : m = [] := List.length_eq_zero_iff.mp (Nat.le_zero.mp h)
    rw [e]
  | x :: l, m, d, s, h => by
    obtain ⟨d1, d2⟩ := List.nodup_cons.mp d
    have hx : x ∈ m := s x List.mem_cons_self
    have p := List.perm_cons_erase hx
    refine p.trans (List.Perm.cons x (perm_of_fill l (m.erase x) d2 (fun y hy => ?_) ?_))
    · have ne : y ≠ x := fun e => d1 (e ▸ hy)
      exact (List.mem_erase_of_ne ne).mpr (s y (List.mem_cons_of_mem _ hy))
    · have := p.length_eq
      simp only [List.length_cons] at this h
      omega
theorem isStr_eq {x y : Str} {t : Tok} (z : Value.isStrOf x (.str y t) = true) : y = x := by
  simp only [Value.isStrOf] at z
  first | exact eq_of_beq z | exact (eq_of_beq z).symm | exact of_decide_eq_true z | exact (of_decide_eq_true z).symm
section
variable {P : Program} {w : World} {A : Around} {E : Value → Shared → Prop} {s : Shared}
theorem txt_of {D : SD} {l : List Str} (T : TxR P w D l) : ∀ v ∈ D.1.toList.map (·.2), ∃ x t, v = Value.str x t ∧ x ∈ l := fun v hv => by
  obtain ⟨e, he, rfl⟩ := List.mem_map.mp hv
  obtain ⟨⟨k, hk, _⟩, _⟩ := T.ok.el e he
  have hm : k ∈ l := (T.ok.mem k).mpr ⟨e, he, hk⟩
  revert hk
  cases hq : e.2 with
  | str x t =>
    intro hk
    have ek : k = x := by
      have z : Value.isStrOf k (.str x t) = true := hk
      exact (isStr_eq z).symm
    exact ⟨x, t, rfl, ek ▸ hm⟩
  | _ => intro hk; cases hk
theorem sortedOfTxt {a : Addr} {D : SD} {l : List Str} {Q : Value → Shared → Prop} (cold : A.handled = none) (ho : s.heap.get? a = some (sObj "set" D)) (T : TxR P w D l) (room : l.length < scanBound)
    (h : ∀ s' p (out : Array Value) (c : Nat) (ys : List Str), (∀ b o, s.heap.get? b = some o → s'.heap.get? b = some o) → s'.gens = s.gens → s'.os = s.os → s.heap.objs.size ≤ p →
      s'.heap.get? p = some (seqObj "list" out c) → StrsAre out.toList ys → ys.Perm l → sortedS ys = true → Q (.ref p) s') :
    wpAny (model P w) A (call (.builtin "sorted") [.ref a]) Q E s := by
  have cnt : D.1.size = l.length := T.ok.sz
  refine Calls.call_function_entry kind_sorted plain_sorted entry_sorted (args_sorted1 _) ?_
  unfold Builtin.«sorted»
  refine wpAny_bind (m := checkCount "sorted" 1 1 _) (wpAny_pure ?_)
  refine wpAny_bind (collect_set (A := A.in1) cold ⟨_, ho, rfl, rfl⟩ T.ok.fit (by rw [cnt]; exact room) T.ris T.led fun s1 vs k1 z1 g1 o1 pm => ?_)
  have lvs : vs.length = l.length := by rw [pm.length_eq, List.length_map, Array.length_toList, cnt]
  have tx : ∀ v ∈ vs, ∃ x t, v = Value.str x t ∧ x ∈ l := fun v hv => txt_of T v (pm.mem_iff.mp hv)
  have are : StrsAre vs (vs.map strOf) := strsAre_map vs fun v hv => let ⟨x, t, e, _⟩ := tx v hv; ⟨x, t, e⟩
  have sub : ∀ x ∈ l, x ∈ vs.map strOf := fun x hx => by
    obtain ⟨e, he, q⟩ := (T.ok.mem x).mp hx
    have hv : e.2 ∈ vs := pm.mem_iff.mpr (List.mem_map.mpr ⟨e, he, rfl⟩)
    obtain ⟨y, t, ey, _⟩ := tx _ hv
    refine List.mem_map.mpr ⟨e.2, hv, ?_⟩
    rw [ey] at q ⊢
    have z : Value.isStrOf x (.str y t) = true := q
    show y = x
    exact isStr_eq z
  have pl : (vs.map strOf).Perm l := perm_of_fill l _ T.nd sub (by rw [List.length_map, lvs] <;> exact Nat.le_refl _)
  have line : vs.length ≤ sizeLine := by
    rw [lvs]
    exact fits_of_scanBound room
  refine wpAny_bind (wpAny_newList ?_ line)
  have at1 : (s1.heap.push (seqObj "list" vs.toArray 0)).get? s1.heap.objs.size = some (seqObj "list" vs.toArray 0) := Heap.get?_push_size _ rfl
  refine wpAny_bind (wpAny_holding (wpAny_call_entry slot_list_sort ⟨_, at1, rfl⟩ entry_list_sort (list_sort_treeKAny strKind_oneLt at1 are.keysOf (fun v₁ v₂ rest e => keyKind_strs (by rw [← e]; exact are)) line fun st' hp hs => ⟨_, rfl, ?_⟩) (args_list_sort _)))
  obtain ⟨ys, y1, y2, y3⟩ := sorted_out_str are hp hs
  obtain ⟨c, hc⟩ := sortedHeap_at (vs := vs) (out := (arrOf st').map (·.2)) at1
  refine wpAny_pure ⟨_, rfl, h _ s1.heap.objs.size _ c ys (fun b u e => ?_) g1 o1 z1 hc y1 (y2.trans pl) y3⟩
  have q := k1 b u e
  have less := Heap.lt_size q
  show (sortedHeap (s1.heap.push (seqObj "list" vs.toArray 0)) s1.heap.objs.size vs ((arrOf st').map (·.2))).get? b = some u
  rw [sortedHeap_old (Nat.ne_of_lt less) (by rw [size_push']; exact Nat.lt_succ_of_lt less)]
  exact Heap.get?_push_of_some _ q
end

/-- the set of texts at a -/
def SetTx (P : Program) (w : World) (a : Addr) (l : List Str) : HO := .ext fun h => ∃ D, h.get? a = some (sObj "set" D) ∧ TxR P w D l
section
variable {X : Cx}
/-- set(xs) of a list of texts -/
def rSetTx (K : PySem.W.Frag) (P : Program) (w : World) : List V → Hp → VK → Prop := fun vs H Q => ∃ (a : Addr) (xs : List Str), vs = [V.ref a] ∧ SqL K H a (xs.map V.str) ∧ xs.length + 1 < scanBound ∧
  ∀ (p : Addr) (l : List Str), H p = none → l.Nodup → (∀ x, x ∈ l ↔ x ∈ xs) → l.length ≤ xs.length → Q (.ref p) (upd H p (SetTx P w p l))
theorem cr_setTx (hc : X.calm = true) : CallR X (.type "set") (rSetTx X.K X.prog X.w) := by
  intro pins s σ H vs us Q I r h
  obtain ⟨a, xs, rfl, hl, room, q⟩ := h
  rw [Vals.ref1 r]
  obtain ⟨its, rv, pl, _⟩ := I.list hl
  refine setOfTxt xs (I.ok.hd hc) pl.isList (by simpa using strsAre_of rv) room fun h' tk D l ho T hm hn old => ?_
  have free : H s.heap.objs.size = none := I.hok.fresh (Nat.le_refl _)
  exact ⟨.ref _, upd H s.heap.objs.size (SetTx X.prog X.w s.heap.objs.size l), I.laid (t' := tk) old (Nat.le_refl _) ⟨⟨D, ho, T⟩, ⟨_, ho⟩, fun h1 h2 p k => let ⟨D, a, b⟩ := p; ⟨D, k _ a, b⟩⟩, rfl, q _ l free T.nd hm hn⟩
/-- sorted of a set of texts -/
def rSortTx (P : Program) (w : World) : List V → Hp → VK → Prop := fun vs H Q => ∃ (a : Addr) (l : List Str), vs = [V.ref a] ∧ H a = some (SetTx P w a l) ∧ l.length < scanBound ∧
  ∀ (ys : List Str) (p : Addr), ys.Perm l → ys.Nodup → sortedS ys = true → H p = none → Q (.ref p) (upd H p (.lst (ys.map V.str)))
theorem cr_sortTx (hc : X.calm = true) : CallR X (.builtin "sorted") (rSortTx X.prog X.w) := by
  intro pins s σ H vs us Q I r h
  obtain ⟨a, l, rfl, ha, room, q⟩ := h
  obtain ⟨D, ho, T⟩ := (I.hok a _ ha).1
  rw [Vals.ref1 r]
  refine sortedOfTxt (I.ok.hd hc) ho T room fun s' p out c ys k g o hp hg are pm so => ?_
  have len : (ys.map V.str).length ≤ sizeLine := by
    rw [List.length_map, pm.length_eq]
    exact fits_of_scanBound room
  have free : H p = none := I.hok.fresh hp
  have J : Inv X pins σ (upd H p (.lst (ys.map V.str))) { s with heap := s'.heap, gens := s'.gens, drawn := s'.drawn, toks := s'.toks } :=
    I.call (ch := []) (Un.laid k hp free) (I.hok.laid k hp ⟨len, out.toList, c, vals_of_strs are, hg⟩) (by rw [g]; exact I.bare) (fun _ z => nomatch z)
  have e : s' = { s with heap := s'.heap, gens := s'.gens, drawn := s'.drawn, toks := s'.toks } := by
    cases s'
    cases s
    cases o
    rfl
  rw [e]
  exact ⟨.ref p, _, J, rfl, q ys p pm (pm.nodup_iff.mpr T.nd) so free⟩
end
end Wk
set_option Elab.async false
set_option linter.all false
set_option maxRecDepth 100000
set_option maxHeartbeats 4000000
/-! Family D: usual words, short words, longer words. -/
namespace LB
open PySem L2 Wk
def engO : List Str := ["zero", "one", "two", "three", "four", "five", "six", "seven", "eight", "nine", "ten", "eleven", "twelve", "thirteen", "fourteen", "fifteen", "sixteen", "seventeen", "eighteen", "nineteen"]
def engT : List Str := ["twenty", "thirty", "forty", "fifty", "sixty", "seventy", "eighty", "ninety"]
def engS : List Str := ["thousand", "million", "billion", "trillion", "quadrillion", "quintillion", "sextillion", "septillion", "octillion", "nonillion"]
theorem eng_good : GoodRow (engO ++ (engT ++ ("hundred" : Str) :: engS)) := by
  have e : (engO ++ (engT ++ ("hundred" : Str) :: engS)).all goodB = true := by decide +kernel
  have n : (engO ++ (engT ++ ("hundred" : Str) :: engS)).Nodup := by decide +kernel
  exact ⟨n, fun x hx => goodB_ok (List.all_eq_true.mp e x hx)⟩
theorem take_row {a b : List Str} {h : Str} {l : List Str} {n : Nat} (g : GoodRow (a ++ (b ++ h :: l))) : GoodRow (a ++ (b ++ h :: l.take n)) := by
  have e : a ++ (b ++ h :: l) = (a ++ (b ++ h :: l.take n)) ++ l.drop n := by
    rw [List.append_assoc, List.append_assoc, List.cons_append, List.take_append_drop]
  rw [e] at g
  exact g.left
theorem same_more {H G : Hp} {a : Addr} {x : HO} (s : Same H G) (n : G a = none) : Same H (upd G a x) := fun b o e => by
  rw [upd_ne (ne_of_none (s b o e) n)]
  exact s b o e
/-- a new table of words, its lists apart -/
structure NewTab (H H' : Hp) (t o te sc : Addr) (ones tens : List Str) (hun : Str) (scales : List Str) : Prop where
  n0 : H t = none
  n1 : H o = none
  n2 : H te = none
  n3 : H sc = none
  d1 : o ≠ te
  d2 : o ≠ sc
  d3 : te ≠ sc
  at_ : TabAt H' t ones tens hun scales o te sc
  l1 : ones.length = 20
  l2 : tens.length = 8
  good : GoodRow (ones ++ (tens ++ hun :: scales))
def spEnglishD : Sp := fun vs H Q _ => ∃ n : Nat, vs = [.int (n : Int)] ∧ n ≤ 10 ∧ ∀ (t o te sc : Addr) (ones tens : List Str) (hun : Str) (scales : List Str) (H' : Hp), NewTab H H' t o te sc ones tens hun scales → scales.length = n → Same H H' → Q (.ref t) H'
/-- .. with its words -/
def spEnglishW : Sp := fun vs H Q _ => ∃ n : Nat, vs = [.int (n : Int)] ∧ n ≤ 10 ∧ ∀ (t o te sc : Addr) (H' : Hp), NewTab H H' t o te sc engO engT "hundred" (engS.take n) → Same H H' → Q (.ref t) H'
section
variable {P : Program} {w : World} {K : PySem.W.Frag} {mg : Str → Option Value} {base : Heap}
theorem scEngD : FnScope ["scales_here", "ones", "tens", "scales"] ["scales_here"] (defScope sEnglish) := ⟨rfl, rfl, rfl, by decide +kernel, rfl, by decide +kernel, by decide +kernel⟩
theorem ok_englishW {f : Addr} {fd : FuncData} (F : Fun K "_law_english" "_law_english" sEnglish f fd) : FnOk P w K mg base CX0 1 f fd ["scales_here"] spEnglishW := by
  refine F.ok scEngD (fun vs H Q E h => ?_) (fun cdv A outer s H vs Q E hr h => ?_)
  · obtain ⟨n, rfl, _⟩ := h
    rfl
  · obtain ⟨n, rfl, n10, k⟩ := h
    refine ⟨_, pss_cons (ps_set (i := 1) scEngD.nd rfl (.inl rfl) (pe_words pe_str))
      (pss_cons (ps_set (i := 1) scEngD.nd rfl (.inl rfl) (pe_op op_cat (pv 1) (pe_lst (pa_cons pe_str (pa_cons pe_str (pa_cons pe_str (pa_cons pe_str pa_nil)))))))
      (pss_cons (ps_set (i := 2) scEngD.nd rfl (.inl rfl) (pe_words pe_str))
      (pss_cons (ps_set (i := 3) scEngD.nd rfl (.inl rfl) (pe_words pe_str))
      (pss_one (ps_ret (pe_tup (pa_cons (pv 1) (pa_cons (pv 2) (pa_cons pe_str (pa_cons (pe_slice sl_list (pe_op op_cat (pv 3) (pe_lst (pa_cons pe_str (pa_cons pe_str pa_nil)))) po_none (po_some (pv 0))) pa_nil)))))))))), ?_⟩
    generalize hW1 : Txt.words "zero one two three four five six seven eight nine ten eleven twelve thirteen fourteen fifteen" = W1
    generalize hW2 : Txt.words "twenty thirty forty fifty sixty seventy eighty ninety" = W2
    generalize hW3 : Txt.words "thousand million billion trillion quadrillion quintillion sextillion septillion" = W3
    have e1 : W1 ++ (["sixteen", "seventeen", "eighteen", "nineteen"] : List Str) = engO := by rw [← hW1]; decide +kernel
    have e2 : W2 = engT := by rw [← hW2]; decide +kernel
    have e3 : W3 ++ (["octillion", "nonillion"] : List Str) = engS := by rw [← hW3]; decide +kernel
    have l1 : W1.length = 16 := by
      have z := congrArg List.length e1
      rw [List.length_append] at z
      have z2 : engO.length = 20 := rfl
      have z3 : (["sixteen", "seventeen", "eighteen", "nineteen"] : List Str).length = 4 := rfl
      omega
    have l3 : W3.length = 8 := by
      have z := congrArg List.length e3
      rw [List.length_append] at z
      have z2 : engS.length = 10 := rfl
      have z3 : (["octillion", "nonillion"] : List Str).length = 2 := rfl
      omega
    refine ⟨⟨_, rfl⟩, _, rfl, rfl, by decide +kernel, ?_⟩
    rw [hW1]
    intro p1 n1
    have s1 := same_more (x := .lst (W1.map V.str)) (Same.refl H) n1
    refine ⟨_, rfl, by show 4 ≤ sizeLine; decide, fun p2 n2 => ?_⟩
    have s2 := same_more (x := .lst [.str "sixteen", .str "seventeen", .str "eighteen", .str "nineteen"]) s1 n2
    have p12 : p1 ≠ p2 := ne_of_none upd_same n2
    refine ⟨p1, p2, _, _, rfl, rfl, (upd_ne p12).trans upd_same, upd_same, ?_, ?_⟩
    · rw [List.length_map, l1]
      decide
    rw [show W1.map V.str ++ [.str "sixteen", .str "seventeen", .str "eighteen", .str "nineteen"] = engO.map V.str by rw [← e1, List.map_append]; rfl]
    generalize upd (upd H p1 (.lst (W1.map V.str))) p2 (.lst [.str "sixteen", .str "seventeen", .str "eighteen", .str "nineteen"]) = G2 at s2
    intro p3 n3
    have s3 := same_more (x := .lst (engO.map V.str)) s2 n3
    have h3 : upd G2 p3 (.lst (engO.map V.str)) p3 = some (.lst (engO.map V.str)) := upd_same
    have f3 := Same.free s2 n3
    generalize upd G2 p3 (.lst (engO.map V.str)) = G3 at s3 h3
    refine ⟨⟨_, rfl⟩, _, rfl, rfl, by decide +kernel, ?_⟩
    rw [hW2, e2]
    intro p4 n4
    have s4 := same_more (x := .lst (engT.map V.str)) s3 n4
    have h4 : upd G3 p4 (.lst (engT.map V.str)) p4 = some (.lst (engT.map V.str)) := upd_same
    have f4 := Same.free s3 n4
    have d34 : p3 ≠ p4 := ne_of_none h3 n4
    have h3' := (upd_ne (o := .lst (engT.map V.str)) d34).trans h3
    generalize upd G3 p4 (.lst (engT.map V.str)) = G4 at s4 h4 h3'
    refine ⟨⟨_, rfl⟩, _, rfl, rfl, by decide +kernel, ?_⟩
    rw [hW3]
    intro p5 n5
    have s5 := same_more (x := .lst (W3.map V.str)) s4 n5
    refine ⟨_, rfl, _, rfl, _, rfl, by show 2 ≤ sizeLine; decide, fun p6 n6 => ?_⟩
    have s6 := same_more (x := .lst [.str "octillion", .str "nonillion"]) s5 n6
    have p56 : p5 ≠ p6 := ne_of_none upd_same n6
    refine ⟨p5, p6, _, _, rfl, rfl, (upd_ne p56).trans upd_same, upd_same, ?_, ?_⟩
    · rw [List.length_map, l3]
      decide
    rw [show W3.map V.str ++ [.str "octillion", .str "nonillion"] = engS.map V.str by rw [← e3, List.map_append]; rfl]
    have k6 : ∀ q o, G4 q = some o → upd (upd G4 p5 (.lst (W3.map V.str))) p6 (.lst [.str "octillion", .str "nonillion"]) q = some o := fun q o e => upd_keep (upd_keep e n5) n6
    generalize upd (upd G4 p5 (.lst (W3.map V.str))) p6 (.lst [.str "octillion", .str "nonillion"]) = G6 at s6 k6
    intro p7 n7
    have s7 := same_more (x := .lst (engS.map V.str)) s6 n7
    have h7 : upd G6 p7 (.lst (engS.map V.str)) p7 = some (.lst (engS.map V.str)) := upd_same
    have k7 : ∀ q o, G4 q = some o → upd G6 p7 (.lst (engS.map V.str)) q = some o := fun q o e => upd_keep (k6 q o e) n7
    generalize upd G6 p7 (.lst (engS.map V.str)) = G7 at s7 h7 k7
    refine ⟨_, rfl, _, rfl, p7, _, rfl, SqL.of h7, ?_⟩
    rw [cut_a (l := engS) (k := n) n10]
    intro p8 n8
    have s8 := same_more (x := .lst ((engS.take n).map V.str)) s7 n8
    have h8 : upd G7 p8 (.lst ((engS.take n).map V.str)) p8 = some (.lst ((engS.take n).map V.str)) := upd_same
    have f8 := Same.free s7 n8
    have k8 : ∀ q o, G4 q = some o → upd G7 p8 (.lst ((engS.take n).map V.str)) q = some o := fun q o e => upd_keep (k7 q o e) n8
    have d38 : p3 ≠ p8 := ne_of_none (k7 _ _ h3') n8
    have d48 : p4 ≠ p8 := ne_of_none (k7 _ _ h4) n8
    generalize upd G7 p8 (.lst ((engS.take n).map V.str)) = G8 at s8 h8 k8
    refine ⟨by show 4 ≤ sizeLine; decide, fun p9 n9 => ?_⟩
    exact k p9 p3 p4 p8 _ ⟨Same.free s8 n9, f3, f4, f8, d34, d38, d48, ⟨upd_same, upd_keep (k8 _ _ h3') n9, upd_keep (k8 _ _ h4) n9, upd_keep h8 n9⟩, rfl, rfl, take_row eng_good⟩ (same_more s8 n9)
theorem ok_englishD {f : Addr} {fd : FuncData} (F : Fun K "_law_english" "_law_english" sEnglish f fd) : FnOk P w K mg base CX0 1 f fd ["scales_here"] spEnglishD :=
  (ok_englishW F).imp fun vs H Q E ⟨n, e, n10, k⟩ => ⟨n, e, n10, fun t o te sc H' N s => k t o te sc engO engT "hundred" (engS.take n) H' N (by rw [List.length_take]; exact Nat.min_eq_left n10) s⟩
end
end LB
set_option Elab.async false
set_option linter.all false
set_option maxRecDepth 100000
set_option maxHeartbeats 4000000
/-! Family D: short words. -/
namespace LB
open PySem L2 Wk
def extW (cs : List Nat) (x : Str) : List Str := cs.map fun c => x ++ (⟨#[c]⟩ : Str)
def extL (cs : List Nat) (l : List Str) : List Str := l.flatMap (extW cs)
def layN (cs : List Nat) : Nat → List Str
  | 0 => [""]
  | n + 1 => extL cs (layN cs n)
def shN (cs : List Nat) : Nat → List Str
  | 0 => []
  | n + 1 => shN cs n ++ layN cs (n + 1)
theorem len_app (x y : Str) : (x ++ y).length = x.length + y.length := by
  show (x.cps ++ y.cps).size = _
  rw [Array.size_append]
  rfl
theorem extL_len (cs : List Nat) : ∀ l : List Str, (extL cs l).length = l.length * cs.length
  | [] => by simp [extL]
  | x :: l => by
    show (extW cs x ++ extL cs l).length = _
    rw [List.length_append, extL_len cs l, List.length_cons, Nat.succ_mul]
    unfold extW
    rw [List.length_map]
    omega
theorem layN_len (cs : List Nat) (h : cs.length ≤ 3) : ∀ n, (layN cs n).length ≤ 3 ^ n
  | 0 => Nat.le_refl _
  | n + 1 => by
    show (extL cs (layN cs n)).length ≤ 3 ^ (n + 1)
    rw [extL_len, Nat.pow_succ]
    exact Nat.mul_le_mul (layN_len cs h n) h
theorem layN_small (cs : List Nat) (h : cs.length ≤ 3) {n : Nat} (hn : n ≤ 5) : (layN cs n).length ≤ 243 :=
  Nat.le_trans (layN_len cs h n) (show 3 ^ n ≤ 3 ^ 5 from Nat.pow_le_pow_right (by decide) hn)
theorem shN_small (cs : List Nat) (h : cs.length ≤ 3) : ∀ {n : Nat}, n ≤ 5 → (shN cs n).length ≤ 243 * n
  | 0, _ => Nat.le_refl _
  | n + 1, hn => by
    show (shN cs n ++ layN cs (n + 1)).length ≤ _
    rw [List.length_append]
    have a := shN_small cs h (n := n) (by omega)
    have b := layN_small cs h hn
    omega
theorem layN_word (cs : List Nat) : ∀ (n : Nat), ∀ x ∈ layN cs n, x.length = n
  | 0, x, hx => by
    rw [List.mem_singleton.mp hx]
    decide +kernel
  | n + 1, x, hx => by
    obtain ⟨y, hy, hx⟩ := List.mem_flatMap.mp hx
    obtain ⟨c, _, rfl⟩ := List.mem_map.mp hx
    rw [len_app, layN_word cs n y hy]
    rfl
def spShort : Sp := fun vs H Q _ => ∃ (sg : Str) (m : Nat), vs = [.str sg, .int (m : Int)] ∧ sg.cps.size ≤ 3 ∧ m ≤ 5 ∧ ∀ (p : Addr) (H' : Hp), H p = none → H' p = some (.lst ((shN sg.cps.toList m).map V.str)) → Same H H' → Q (.ref p) H'
section
variable {P : Program} {w : World} {K : PySem.W.Frag} {mg : Str → Option Value} {base : Heap}
theorem scShort : FnScope ["signs", "most", "found", "layer", "turn", "longer", "word", "sign"] ["signs", "most"] (defScope sShort) := ⟨rfl, rfl, rfl, by decide +kernel, rfl, by decide +kernel, by decide +kernel⟩
theorem ok_short {f : Addr} {fd : FuncData} (F : Fun K "_law_short" "_law_short" sShort f fd) (mR : mg "range" = none) : FnOk P w K mg base CX0 1 f fd ["signs", "most"] spShort := by
  refine F.ok scShort (fun vs H Q E h => ?_) (fun cdv A outer s H vs Q E hr h => ?_)
  · obtain ⟨sg, m, rfl, _⟩ := h
    rfl
  · obtain ⟨sg, m, rfl, c3, m5, k⟩ := h
    refine ⟨_, pss_mid (ps_par (i := 2) (j := 3) (by rfl) scShort.nd rfl rfl (by decide) rfl rfl (pa_cons (pe_lst pa_nil) (pa_cons (pe_lst (pa_cons pe_str pa_nil)) pa_nil)) (by rfl))
      (pss_cons (ps_for PassesOwn.never rfl (pi_range1 rfl mR (pa_cons (pv 1) pa_nil)) (pg_name (i := 4) scShort.nd rfl (by first | exact .inl rfl | exact .inr rfl))
        (pss_cons (ps_set (i := 5) scShort.nd rfl (by first | exact .inl rfl | exact .inr rfl) (pe_lst pa_nil))
        (pss_cons (ps_for PassesOwn.never rfl (pi_list (pv 3)) (pg_name (i := 6) scShort.nd rfl (by first | exact .inl rfl | exact .inr rfl))
          (pss_one (ps_expr (pe_bm PySem.F.plainAttrs_list PySem.F.slot_list_extend PySem.F.type_list_extend mt_extend (pv 5)
            (pa_cons (pe_lc (own := [("sign", 7)]) (g := gName 7) rfl scShort.nd (pi_str (pv 0)) (blkOk_by (own := [("sign", 7)]) (N := ["signs", "most", "found", "layer", "turn", "longer", "word", "sign"]) (sc := defScope sShort) (by decide +kernel)) (fun _ _ _ _ _ => pg_name (i := 7) scShort.nd rfl (Or.inl rfl)) (fun _ _ _ _ _ => pts_nil) (fun _ _ _ _ _ => pe_op op_add_str (pv 6) (pv 7))) pa_nil)))))
        (pss_cons (ps_set (i := 3) scShort.nd rfl (by first | exact .inl rfl | exact .inr rfl) (pv 5))
        (pss_one (ps_expr (pe_bm PySem.F.plainAttrs_list PySem.F.slot_list_extend PySem.F.type_list_extend mt_extend (pv 2) (pa_cons (pv 3) pa_nil))))))))
      (pss_one (ps_ret (pv 2)))), ?_⟩
    obtain ⟨cs, hcs⟩ : ∃ cs, sg.cps.toList = cs := ⟨_, rfl⟩
    have ncs : cs.length ≤ 3 := by rw [← hcs, Array.length_toList]; exact c3
    have big : 3000 ≤ sizeLine := by decide
    refine ⟨fun τ G => ∃ a b : Addr, τ = [some (.str sg), some (.int (m : Int)), some (.ref a), some (.ref b), none, none, none, none] ∧ G a = some (.lst []) ∧ G b = some (.lst [.str ""]) ∧ H a = none ∧ H b = none ∧ a ≠ b ∧ Same H G, ?_, ?_⟩
    · refine ⟨by show 0 ≤ sizeLine; omega, fun a na => ?_⟩
      refine ⟨by show 1 ≤ sizeLine; omega, fun b nb => ?_⟩
      have ab : a ≠ b := ne_of_none upd_same nb
      refine ⟨_, _, rfl, a, b, rfl, upd_keep upd_same nb, upd_same, na, ?_, ab, same_more (same_more (Same.refl H) na) nb⟩
      rw [upd_ne ab.symm] at nb
      exact nb
    rintro τ G ⟨a, b, rfl, ha, hb, na, nb, ab, sG⟩
    refine ⟨_, rfl, (m : Int), rfl, by omega, by omega, ?_⟩
    refine for_range (lo := 0) (n := ((m : Nat) : Int).toNat) (fun i σ G => ∃ (b : Addr) (x4 x5 x6 : Option V), σ = [some (.str sg), some (.int (m : Int)), some (.ref a), some (.ref b), x4, x5, x6, none] ∧ G a = some (.lst ((shN cs i).map V.str)) ∧ G b = some (.lst ((layN cs i).map V.str)) ∧ a ≠ b ∧ Same H G)
      ⟨b, none, none, none, rfl, ha, hb, ab, sG⟩ ?_ ?_
    · rintro i σ G hi ⟨b, x4, x5, x6, rfl, ha, hb, ab, sG⟩
      have i5 : i < 5 := by omega
      refine ⟨by show 0 ≤ sizeLine; omega, fun q nq => ?_⟩
      have aq : a ≠ q := ne_of_none ha nq
      have bq : b ≠ q := ne_of_none hb nq
      have nqH := Same.free sG nq
      refine ⟨_, rfl, b, rfl, ⟨_, SqL.of (upd_keep hb nq)⟩, for_list (K := K) (a := b) (xs := (layN cs i).map V.str)
        (fun j σ G2 => ∃ x6 : Option V, σ = [some (.str sg), some (.int (m : Int)), some (.ref a), some (.ref b), some (.int (0 + (i : Int))), some (.ref q), x6, none] ∧ G2 q = some (.lst ((extL cs ((layN cs i).take j)).map V.str)) ∧
          G2 a = some (.lst ((shN cs i).map V.str)) ∧ G2 b = some (.lst ((layN cs i).map V.str)) ∧ Same H G2)
        ⟨_, rfl, upd_same, upd_keep ha nq, upd_keep hb nq, same_more sG nq⟩ (fun j σ G2 _ ⟨_, _, _, _, h, _⟩ => SqL.of h) ?_ ?_⟩
      · rintro j y σ G2 hj ⟨x6, rfl, hq2, ha2, hb2, s2⟩
        obtain ⟨z, hz, rfl⟩ := str_at hj
        have zl := layN_word cs i z (List.mem_of_getElem? hz)
        have jl := (List.getElem?_eq_some_iff.mp hz).1
        have ls := layN_small cs ncs (n := i) (by omega)
        refine ⟨_, rfl, .inl ⟨rfl, _, SqL.of hq2⟩, ?_⟩
        refine ⟨_, rfl, sg, rfl, fun D nD => ?_⟩
        refine lc_it walk_str (fun n G3 => G3 D = some (.lst (((cs.take n).map fun c => z ++ (⟨#[c]⟩ : Str)).map V.str)) ∧ ∀ u o, G2 u = some o → G3 u = some o) ⟨upd_same, fun u o e => upd_keep e nD⟩ (fun _ _ _ _ => trivial) ?_ ?_
        · rintro n y G3 G4 hn ⟨gD, gk⟩ ⟨rfl, c, hc, rfl⟩
          have hc' : cs[n]? = some c := by
            rw [← hcs, Array.getElem?_toList]
            exact hc
          have n3 := (List.getElem?_eq_some_iff.mp hc').1
          refine ⟨rfl, _, rfl, _, rfl, z, _, rfl, rfl, ?_, _, gD, ?_, ?_, ?_⟩
          · show z.length + 1 ≤ sizeLine
            omega
          · rw [List.length_map, List.length_map, List.length_take]
            omega
          · rw [upd_same, List.take_add_one, hc', List.map_append, List.map_append]
            rfl
          · intro u o e
            rw [upd_ne (ne_of_none e nD)]
            exact gk u o e
        · rintro G3 ⟨gD, gk⟩
          have full : cs.take sg.cps.size = cs := List.take_of_length_le (by rw [← hcs, Array.length_toList]; exact Nat.le_refl _)
          rw [full] at gD
          have more : extL cs ((layN cs i).take (j + 1)) = extL cs ((layN cs i).take j) ++ cs.map fun c => z ++ (⟨#[c]⟩ : Str) := by
            unfold extL
            rw [List.take_add_one, hz, List.flatMap_append]
            show _ ++ (extW cs z ++ []) = _
            rw [List.append_nil]
            rfl
          have qD : q ≠ D := ne_of_none hq2 nD
          refine ⟨q, D, _, _, rfl, rfl, gk _ _ hq2, gD, ?_, _, rfl, ?_, ?_, ?_, fun u o e => ?_⟩
          · rw [List.length_map, List.length_map, List.length_map, extL_len, List.length_take]
            have m1 : min j (layN cs i).length * cs.length ≤ 243 * 3 := Nat.mul_le_mul (by omega) ncs
            omega
          · rw [upd_same, more, List.map_append]
          · rw [upd_ne aq]
            exact gk _ _ ha2
          · rw [upd_ne bq]
            exact gk _ _ hb2
          · have uq : u ≠ q := ne_of_none e nqH
            rw [upd_ne uq]
            exact gk _ _ (s2 u o e)
      · rintro σ G2 ⟨x6, rfl, hq2, ha2, hb2, s2⟩
        rw [List.length_map, List.take_length] at hq2
        have ls := layN_small cs ncs (n := i + 1) (by omega)
        have ss := shN_small cs ncs (n := i) (by omega)
        refine ⟨_, rfl, _, rfl, .inl ⟨rfl, _, SqL.of ha2⟩, _, rfl, a, q, _, _, rfl, rfl, ha2, hq2, ?_, q, _, _, _, rfl, by rw [upd_same, ← List.map_append]; rfl, ?_, aq, fun u o e => ?_⟩
        · rw [List.length_map, List.length_map]
          have e : extL cs (layN cs i) = layN cs (i + 1) := rfl
          rw [e]
          omega
        · rw [upd_ne aq.symm]
          exact hq2
        · have ua : u ≠ a := ne_of_none e na
          rw [upd_ne ua]
          exact s2 u o e
    · rintro σ G ⟨b, x4, x5, x6, rfl, ha, hb, ab, sG⟩
      rw [Int.toNat_natCast] at ha
      exact ⟨_, rfl, k a G na (by rw [hcs]; exact ha) sG⟩
end
end LB
set_option Elab.async false
set_option linter.all false
set_option maxRecDepth 100000
set_option maxHeartbeats 4000000
/-! Family D: longer words. -/
namespace LB
open PySem L2 Wk
def rMulS0 : R2 := fun x y H Q => ∃ (z : Str) (k : Int), x = .str z ∧ y = .int k ∧ 0 ≤ k ∧ k ≤ 1000 ∧ z.length ≤ 1000 ∧ 1 ≤ z.length ∧ Q (.str ⟨(List.replicate k.toNat z.cps).foldl (· ++ ·) #[]⟩) H
theorem op_mulS0 {X : Cx} : OpR X (binaryOp .Mult) rMulS0 := by
  intro pins s σ H x y v u Q I rx ry h
  obtain ⟨z, k, rfl, rfl, k0, k3, z1, z0, q⟩ := h
  obtain ⟨t, rfl⟩ := rx
  obtain ⟨t2, rfl⟩ := ry
  by_cases k2 : 2 ≤ k
  · exact op_mulS pins s σ H (.str z) (.int k) _ _ Q I ⟨t, rfl⟩ ⟨t2, rfl⟩ ⟨z, k, rfl, rfl, k2, k3, z1, z0, q⟩
  · refine PySem.P.mul_str ?_ (fun a b => ?_) (fun a b => ?_) ?_
    · rw [decide_eq_false (by omega), decide_eq_false (by omega)]
      rfl
    · have e : k = 1 := by omega
      rw [e] at b
      simp at b
    · have e : k = 1 := by omega
      rw [e] at b
      simp at b
    · by_cases k1 : k < 1
      · rw [if_pos k1]
        have e : k = 0 := by omega
        subst e
        exact ⟨by decide, .str Str.empty, H, I.tok _, ⟨_, rfl⟩, q⟩
      · have e : k = 1 := by omega
        subst e
        rw [if_neg (by decide), if_pos (by simp)]
        have q1 : (List.replicate (1 : Int).toNat z.cps).foldl (· ++ ·) #[] = z.cps := by
          show #[] ++ z.cps = z.cps
          simp
        rw [q1] at q
        exact ⟨.str z, H, I, ⟨t, rfl⟩, q⟩
/-- some letters in front -/
def lng (c k : Nat) (x : Str) : Str := ⟨(List.replicate k (#[c] : Array Nat)).foldl (· ++ ·) #[]⟩ ++ x
theorem rep_list (c : Nat) : ∀ (k : Nat) (acc : Array Nat), ((List.replicate k (#[c] : Array Nat)).foldl (· ++ ·) acc).toList = acc.toList ++ List.replicate k c
  | 0, acc => by simp
  | k + 1, acc => by
    rw [List.replicate_succ, List.foldl_cons, rep_list c k]
    simp [List.replicate_succ]
theorem lng_list (c k : Nat) (x : Str) : (lng c k x).cps.toList = List.replicate k c ++ x.cps.toList := by
  show (((List.replicate k (#[c] : Array Nat)).foldl (· ++ ·) #[]) ++ x.cps).toList = _
  rw [Array.toList_append, rep_list]
  simp
/-- what is behind the letters in front -/
def core (x : Str) : List Nat := x.cps.toList.dropWhile fun c => c == 97 || c == 98 || c == 122
theorem core_lng {c k : Nat} {x : Str} (hc : c = 97 ∨ c = 98 ∨ c = 122) : core (lng c k x) = core x := by
  unfold core
  rw [lng_list]
  induction k with
  | zero => rfl
  | succ k ih =>
    rw [List.replicate_succ, List.cons_append, List.dropWhile_cons]
    have e : (c == 97 || c == 98 || c == 122) = true := by
      rcases hc with rfl | rfl | rfl <;> rfl
    rw [if_pos e]
    exact ih
theorem lng_good {c k : Nat} {x : Str} (hc : c = 97 ∨ c = 98 ∨ c = 122) (hk : k ≤ 3) (hx : GoodWord x) (h10 : x.length ≤ 10) : GoodWord (lng c k x) := by
  have l : (lng c k x).length = k + x.length := by
    show (lng c k x).cps.size = _
    rw [← Array.length_toList, lng_list, List.length_append, List.length_replicate, Array.length_toList]
    rfl
  obtain ⟨a, b, d⟩ := hx
  refine ⟨by omega, by omega, fun e he => ?_⟩
  rw [lng_list] at he
  rcases List.mem_append.mp he with h | h
  · rw [(List.mem_replicate.mp h).2]
    omega
  · exact d e h
def spLonger : Sp := fun vs H Q _ => ∃ (p : Addr) (d s c : Int) (x : Str), vs = [.ref p, .str x] ∧ RngAtD H p d s c ∧ c < 2 ^ 29 ∧ x.length ≤ 100 ∧
  ∀ (ch k : Nat) (d' c' : Int) (H' : Hp), (ch = 97 ∨ ch = 98 ∨ ch = 122) → k ≤ 3 → c' ≤ c + 2 → RngAtD H' p d' s c' → (∀ q o, H q = some o → q ≠ p → H' q = some o) → Q (.str (lng ch k x)) H'
section
variable {P : Program} {w : World} {K : PySem.W.Frag} {mg : Str → Option Value} {base : Heap}
theorem scLonger : FnScope ["pool", "word"] ["pool", "word"] (defScope sLonger) := ⟨rfl, rfl, rfl, by decide +kernel, rfl, by decide +kernel, by decide +kernel⟩
theorem abz : ∀ i : Fin 3, ∃ c, atI ("abz" : Str).cps.toList (i.1 : Int) = some c ∧ (c = 97 ∨ c = 98 ∨ c = 122) := by decide +kernel
theorem ok_longer {f fD : Addr} {fd dD : FuncData} (F : Fun K "_law_longer" "_law_longer" sLonger f fd) (D : Def1 P w K mg base "_law_draw" 1 fD dD ["pool", "many"] spDrawD) : FnOk P w K mg base CX0 2 f fd ["pool", "word"] spLonger := by
  refine F.ok scLonger (fun vs H Q E h => ?_) (fun cdv A outer s H vs Q E hr h => ?_)
  · obtain ⟨p, d, s, c, x, rfl, _⟩ := h
    rfl
  · obtain ⟨p, d, sd, c, x, rfl, B, c29, x100, k⟩ := h
    have hr1 : Room 1 _ := hr
    refine ⟨_, pss_one (ps_ret (pe_op op_add_str (pe_op op_mulS0 (pe_ix ix_str pe_str (pe_call D.ok hr1 (by rfl) D.g D.k D.b .nil pass0 (pa_cons (pv 0) (pa_cons pe_int pa_nil))) (fun _ _ => rfl)) (pe_call D.ok hr1 (by rfl) D.g D.k D.b .nil pass0 (pa_cons (pv 0) (pa_cons pe_int pa_nil)))) (pv 1))), ?_⟩
    have small : ∀ {n : Nat}, n < 2 ^ 10 → n < 2 ^ 1000 := fun h => Nat.lt_of_lt_of_le h (Nat.pow_le_pow_right (by decide) (by decide))
    refine ⟨_, rfl, p, d, sd, c, 3, rfl, B, by decide, small (by decide), by omega, fun r d1 c1 H1 r0 r1 e1 B1 k1 => ?_⟩
    obtain ⟨rn, rfl, r3⟩ : ∃ rn : Nat, r = (rn : Int) ∧ rn < 3 := ⟨r.toNat, by omega, by omega⟩
    obtain ⟨ch, hat, hch⟩ := abz ⟨rn, r3⟩
    refine ⟨_, _, ch, rfl, rfl, by decide, hat, ?_⟩
    refine ⟨_, rfl, p, d1, sd, c1, 4, rfl, B1, by decide, small (by decide), by omega, fun q d2 c2 H2 q0 q1 e2 B2 k2 => ?_⟩
    obtain ⟨qn, rfl, q4⟩ : ∃ qn : Nat, q = (qn : Int) ∧ qn < 4 := ⟨q.toNat, by omega, by omega⟩
    refine ⟨_, _, rfl, rfl, by omega, by omega, by show 1 ≤ 1000; decide, by show 1 ≤ 1; decide, ?_⟩
    have l1 : (⟨(List.replicate ((qn : Int)).toNat (⟨#[ch]⟩ : Str).cps).foldl (· ++ ·) #[]⟩ : Str).length = qn := by
      show ((List.replicate qn (#[ch] : Array Nat)).foldl (· ++ ·) #[]).size = qn
      rw [size_fold]
      show 0 + _ * 1 = qn
      omega
    refine ⟨_, rfl, _, _, rfl, rfl, ?_, k ch qn d2 c2 H2 hch (by omega) (by omega) B2 fun u o e n => k2 u o (k1 u o e n) n⟩
    have big : 1000 ≤ sizeLine := by decide
    omega
end
end LB
set_option Elab.async false
set_option linter.all false
set_option maxRecDepth 100000
set_option maxHeartbeats 4000000
/-! Family D: the words of a drawn table. -/
namespace LB
open PySem L2 Wk
theorem poolD1 : GoodRow (shN [97, 98] 5) ∧ (shN [97, 98] 5).length = 62 := by
  have e : (shN [97, 98] 5).all goodB = true := by decide +kernel
  have n : (shN [97, 98] 5).Nodup := by decide +kernel
  have l : (shN [97, 98] 5).length = 62 := by decide +kernel
  exact ⟨⟨n, fun x hx => goodB_ok (List.all_eq_true.mp e x hx)⟩, l⟩
theorem poolD2 : GoodRow (shN [97, 98, 99] 4) ∧ (shN [97, 98, 99] 4).length = 120 := by
  have e : (shN [97, 98, 99] 4).all goodB = true := by decide +kernel
  have n : (shN [97, 98, 99] 4).Nodup := by decide +kernel
  have l : (shN [97, 98, 99] 4).length = 120 := by decide +kernel
  exact ⟨⟨n, fun x hx => goodB_ok (List.all_eq_true.mp e x hx)⟩, l⟩
def xyz : List Str := shN [120, 121, 122] 4
theorem xyz_ok : xyz.length = 120 ∧ ∀ x ∈ xyz, GoodWord x ∧ x.length ≤ 10 := by
  have e : xyz.all (fun x => goodB x && decide (x.length ≤ 10)) = true := by decide +kernel
  have l : xyz.length = 120 := by decide +kernel
  refine ⟨l, fun x hx => ?_⟩
  have z := List.all_eq_true.mp e x hx
  rw [Bool.and_eq_true, decide_eq_true_eq] at z
  exact ⟨goodB_ok z.1, z.2⟩
def apartD : List Str := xyz.filter fun x => !(x.cps.toList.head? == some 122)
theorem apartD_ok : (apartD.map core).Nodup ∧ (apartD.map core).length = 80 := by
  constructor <;> decide +kernel
theorem len_sub {α : Type} [DecidableEq α] : ∀ (l m : List α), l.Nodup → (∀ x ∈ l, x ∈ m) → l.length ≤ m.length
  | [], m, _, _ => Nat.zero_le _
  | x :: l, m, d, s => by
    obtain ⟨d1, d2⟩ := List.nodup_cons.mp d
    have hx : x ∈ m := s x List.mem_cons_self
    have p := (List.perm_cons_erase hx).length_eq
    have z := len_sub l (m.erase x) d2 fun y hy => (List.mem_erase_of_ne (fun e : y = x => d1 (e ▸ hy))).mpr (s y (List.mem_cons_of_mem _ hy))
    simp only [List.length_cons] at p ⊢
    omega
/-- a list of longer words, one for each word -/
structure Lngs (R ws : List Str) : Prop where
  len : R.length = ws.length
  each : ∀ (i : Nat) (x : Str), ws[i]? = some x → ∃ (c k : Nat), (c = 97 ∨ c = 98 ∨ c = 122) ∧ k ≤ 3 ∧ R[i]? = some (lng c k x)
theorem Lngs.nil : Lngs [] [] := ⟨rfl, fun i x h => by simp at h⟩
theorem Lngs.snoc {R ws : List Str} {x : Str} {c k : Nat} (l : Lngs R ws) (hc : c = 97 ∨ c = 98 ∨ c = 122) (hk : k ≤ 3) : Lngs (R ++ [lng c k x]) (ws ++ [x]) := by
  refine ⟨by rw [List.length_append, List.length_append, l.len]; rfl, fun i y h => ?_⟩
  rw [List.getElem?_append] at h ⊢
  rw [l.len]
  by_cases hi : i < ws.length
  · rw [if_pos hi] at h ⊢
    exact l.each i y h
  · rw [if_neg hi] at h ⊢
    cases e : i - ws.length with
    | zero =>
      rw [e] at h
      obtain rfl : x = y := Option.some.inj h
      exact ⟨c, k, hc, hk, rfl⟩
    | succ n =>
      rw [e] at h
      cases h
theorem lngs_good {R : List Str} (l : Lngs R xyz) {ys : List Str} (nd : ys.Nodup) (hm : ∀ x, x ∈ ys ↔ x ∈ R) : GoodRow ys ∧ 80 ≤ ys.length := by
  have good : ∀ x ∈ R, GoodWord x := fun x hx => by
    obtain ⟨i, hi⟩ := List.mem_iff_getElem?.mp hx
    have il := (List.getElem?_eq_some_iff.mp hi).1
    rw [l.len] at il
    have hw := List.getElem?_eq_getElem il
    obtain ⟨c, k, hc, hk, e⟩ := l.each i _ hw
    rw [hi] at e
    rw [Option.some.inj e]
    obtain ⟨g, s⟩ := xyz_ok.2 _ (List.mem_of_getElem? hw)
    exact lng_good hc hk g s
  refine ⟨⟨nd, fun x hx => good x ((hm x).mp hx)⟩, ?_⟩
  have z := len_sub (apartD.map core) (ys.map core) apartD_ok.1 fun e he => by
    obtain ⟨x, hx, rfl⟩ := List.mem_map.mp he
    obtain ⟨i, hi⟩ := List.mem_iff_getElem?.mp (List.mem_filter.mp hx).1
    obtain ⟨c, k, hc, hk, e⟩ := l.each i x hi
    exact List.mem_map.mpr ⟨_, (hm _).mpr (List.mem_of_getElem? e), core_lng hc⟩
  rw [apartD_ok.2, List.length_map] at z
  exact z
/-- the first 29 and more of distinct words, as a table -/
theorem row_of {fo : List Str} {hun : Str} (hh : fo[28]? = some hun) : fo.take 20 ++ ((fo.drop 20).take 8 ++ hun :: fo.drop 29) = fo := by
  have e1 : hun :: fo.drop 29 = fo.drop 28 := by
    obtain ⟨h28, e28⟩ := List.getElem?_eq_some_iff.mp hh
    rw [List.drop_eq_getElem_cons h28, e28]
  have e2 : (fo.drop 20).take 8 ++ fo.drop 28 = fo.drop 20 := by
    have z := List.take_append_drop 8 (fo.drop 20)
    rw [List.drop_drop] at z
    exact z
  rw [e1, e2, List.take_append_drop]
def rLenK (K : PySem.W.Frag) : List V → Hp → VK → Prop := fun xs H Q => ∃ (p : Addr) (ys : List V), xs = [.ref p] ∧ (SqL K H p ys ∨ SqT K H p ys) ∧ Q (.int ys.length) H
theorem call_lenK {X : Cx} (K0 : PySem.W.Frag) (hK : X.K = K0) : CallR X (.builtin "len") (rLenK K0) := by
  subst hK
  exact call_len_seq
end LB
set_option Elab.async false
set_option linter.all false
set_option maxRecDepth 100000
/-! A built-in method called within a comprehension: K is told. -/
namespace Wk
open PySem PySem.Spec PyProof.Rows L2
theorem pe_bmK {X : Cx} (K0 : PySem.W.Frag) (hK : X.K = K0) {o e : Expr} {es : List Expr} {to : TE} {t : TA} {nm : Str} {ap cp : Pos} {T id : String} {r : V → List V → Hp → VK → Prop} (pa : PlainAttrs T) (sl : Slot T nm id) (ty : typeOf (.builtin id) = pure (.type "method_descriptor")) (hm : MtR X id r)
    (ho : PE X o to) (ha : PA X (e :: es) t) (h1 : attributeBase o nm X.env (eval o X.env) = eval o X.env := by rfl)
    (h2 : ((backTo cp (starEach (e :: es) X.env)).all (fun x => !x.1) && (backToKw cp (keywordEach [] X.env)).all (fun x => x.1.isSome) && decide ((e :: es).length + ([] : List Keyword).length + (if ([] : List Keyword).isEmpty then 0 else 1) < 30)) = true := by rfl)
    (h3 : (ap.endLine == cp.line) = true := by rfl) (h4 : starEach (e :: es) X.env = (false, eval e X.env) :: starEach es X.env := by rfl) (h5 : (backTo cp (starEach es X.env)).any (·.1) = false := by rfl) :
    PE X (.Call (.Attribute o nm ap) (e :: es) [] cp) (tBM K0 T r to t) := by
  subst hK
  exact pe_bm pa sl ty hm ho ha h1 h2 h3 h4 h5
end Wk
set_option Elab.async false
set_option linter.all false
set_option maxRecDepth 100000
set_option maxHeartbeats 4000000
/-! Family D: a drawn table. -/
namespace LB
open PySem L2 Wk
def spBook : Sp := fun vs H Q _ => ∃ (p : Addr) (d s c : Int) (n : Nat), vs = [.ref p, .int (n : Int)] ∧ RngAtD H p d s c ∧ n ≤ 20 ∧ c < 2 ^ 28 ∧
  ∀ (t o te sc : Addr) (ones tens : List Str) (hun : Str) (scales : List Str) (d' c' : Int) (H' : Hp), NewTab H H' t o te sc ones tens hun scales → scales.length = n → RngAtD H' p d' s c' → c' ≤ c + 500 → (∀ q o, H q = some o → q ≠ p → H' q = some o) → Q (.ref t) H'
/-- what a draw leaves -/
def KeepP (p : Addr) (H H' : Hp) : Prop := ∀ q o, H q = some o → q ≠ p → H' q = some o
theorem KeepP.of {p : Addr} {H G : Hp} (s : Same H G) : KeepP p H G := fun q o e _ => s q o e
theorem KeepP.trans {p : Addr} {H G I : Hp} (a : KeepP p H G) (b : KeepP p G I) : KeepP p H I := fun q o e n => b q o (a q o e n) n
theorem KeepP.free {p : Addr} {H G : Hp} (a : KeepP p H G) (hp : ∃ o, G p = some o) {x : Addr} (n : G x = none) : H x = none := by
  cases e : H x with
  | none => rfl
  | some o =>
    have xp : x ≠ p := fun z => by
      obtain ⟨u, hu⟩ := hp
      rw [z, hu] at n
      cases n
    rw [a x o e xp] at n
    cases n
theorem RngAtD.same {H G : Hp} {p : Addr} {d s c : Int} (B : RngAtD H p d s c) (k : Same H G) : RngAtD G p d s c := ⟨k _ _ B.at_, B.d0, B.s0, B.s1, B.c0⟩
theorem NewTab.before {H H1 H2 : Hp} {t o te sc p : Addr} {ones tens : List Str} {hun : Str} {scales : List Str} (T : NewTab H1 H2 t o te sc ones tens hun scales) (k : KeepP p H H1) (hp : ∃ o, H1 p = some o) : NewTab H H2 t o te sc ones tens hun scales :=
  ⟨k.free hp T.n0, k.free hp T.n1, k.free hp T.n2, k.free hp T.n3, T.d1, T.d2, T.d3, T.at_, T.l1, T.l2, T.good⟩
theorem RngAtD.ne {H : Hp} {p a : Addr} {d s c : Int} (B : RngAtD H p d s c) (n : H a = none) : a ≠ p := fun z => by
  rw [z, B.at_] at n
  cases n
section
variable {P : Program} {w : World} {K : PySem.W.Frag} {mg : Str → Option Value} {base : Heap}
theorem scBook : FnScope ["pool", "scales_here", "way", "many", "left", "found", "word", "turn"] ["pool", "scales_here"] (defScope sBook) := ⟨rfl, rfl, rfl, by decide +kernel, rfl, by decide +kernel, by decide +kernel⟩
theorem ok_book {f fD fE fS fL : Addr} {fd dD dE dS dL : FuncData} (F : Fun K "_law_book" "_law_book" sBook f fd) (D : Def1 P w K mg base "_law_draw" 1 fD dD ["pool", "many"] spDrawD) (En : Def1 P w K mg base "_law_english" 1 fE dE ["scales_here"] spEnglishD)
    (Sh : Def1 P w K mg base "_law_short" 1 fS dS ["signs", "most"] spShort) (Lo : Def1 P w K mg base "_law_longer" 2 fL dL ["pool", "word"] spLonger) (mS : mg "sorted" = none) (mT : mg "set" = none) (mR : mg "range" = none) (mL : mg "len" = none) :
    FnOk P w K mg base CX0 3 f fd ["pool", "scales_here"] spBook := by
  refine F.ok scBook (fun vs H Q E h => ?_) (fun cdv A outer s H vs Q E hr h => ?_)
  · obtain ⟨p, d, s, c, n, rfl, _⟩ := h
    rfl
  · obtain ⟨p, d, sd, c, n, rfl, B, n20, c28, k⟩ := h
    have hr2 : Room 2 _ := hr
    have hr1 : Room 1 _ := hr2.mono (by decide)
    refine ⟨_, pss_cons (ps_par (i := 2) (j := 3) (by rfl) scBook.nd rfl rfl (by decide) rfl rfl (pa_cons (pe_call D.ok hr1 (by rfl) D.g D.k D.b .nil pass0 (pa_cons (pv 0) (pa_cons pe_int pa_nil))) (pa_cons (pe_op op_add pe_int (pv 1)) pa_nil)) (by rfl))
        (pss_mid (ps_if (PW.pt (pw_and (pt_cmpR op_eq (pv 2) pe_int (nomark _)) (pw_and1 (pt_cmpR op_lt (pv 1) pe_int (nomark _))))) (pss_one (ps_ret (pe_call En.ok hr1 (by rfl) En.g En.k En.b .nil pass0 (pa_cons (pv 1) pa_nil)))) pss_nil)
        (pss_mid (ps_set (i := 4) scBook.nd rfl (by first | exact .inl rfl | exact .inr rfl) (pe_ifExp (pt_cmpR op_lt (pv 2) pe_int (nomark _)) (pe_call Sh.ok hr1 (by rfl) Sh.g Sh.k Sh.b .nil pass0 (pa_cons pe_str (pa_cons pe_int pa_nil))) (pe_call Sh.ok hr1 (by rfl) Sh.g Sh.k Sh.b .nil pass0 (pa_cons pe_str (pa_cons pe_int pa_nil)))))
        (pss_mid (ps_if (pt_cmpR op_eq (pv 2) pe_int (nomark _)) (pss_one (ps_set (i := 4) scBook.nd rfl (by first | exact .inl rfl | exact .inr rfl) (pe_callB (cr_sortTx rfl) (by rfl) mS (by decide +kernel) (pa_cons (pe_callTy (cr_setTx rfl) (by rfl) mT (by decide +kernel) (pa_cons (pe_lc (own := [("word", 6)]) (g := gName 6) rfl scBook.nd (pi_list (pe_call Sh.ok hr1 (by rfl) Sh.g Sh.k Sh.b .nil pass0 (pa_cons pe_str (pa_cons pe_int pa_nil)))) (blkOk_by (own := [("word", 6)]) (N := ["pool", "scales_here", "way", "many", "left", "found", "word", "turn"]) (sc := defScope sBook) (by decide +kernel)) (fun _ _ _ _ _ => pg_name (i := 6) scBook.nd rfl (Or.inl rfl)) (fun _ _ _ _ _ => pts_nil) (fun _ _ _ _ _ => pe_call Lo.ok hr2 (by rfl) Lo.g Lo.k Lo.b .nil pass0 (pa_cons (pv 0) (pa_cons (pv 6) pa_nil)))) pa_nil)) pa_nil)))) pss_nil)
        (pss_mid (ps_setLc (i := 5) (y := "found") (own := [("turn", 7)]) (g := gName 7) rfl scBook.nd rfl rfl (sw_true rfl rfl rfl rfl) (pi_range1 rfl mR (pa_cons (pv 3) pa_nil)) (blkOk_by (own := [("turn", 7)]) (N := ["pool", "scales_here", "way", "many", "left", "found", "word", "turn"]) (sc := defScope sBook) (by decide +kernel)) (fun _ _ _ _ _ => pg_name (i := 7) scBook.nd rfl (Or.inl rfl)) (fun _ _ _ _ _ => pts_nil) (fun _ _ _ _ _ => pe_bmK K rfl PySem.F.plainAttrs_list PySem.F.slot_list_pop PySem.F.type_list_pop mt_popAt (pv 4) (pa_cons (pe_call D.ok hr1 (by rfl) D.g D.k D.b .nil pass0 (pa_cons (pv 0) (pa_cons (pe_callB (call_lenK K rfl) (by rfl) mL PySem.boot_len (pa_cons (pv 4) pa_nil)) pa_nil))) pa_nil)))
        (pss_one (ps_ret (pe_tup (pa_cons (pe_slice sl_list (pv 5) po_none (po_some pe_int)) (pa_cons (pe_slice sl_list (pv 5) (po_some pe_int) (po_some pe_int)) (pa_cons (pe_ix ix_list (pv 5) pe_int (fun _ _ => rfl)) (pa_cons (pe_slice sl_list (pv 5) (po_some pe_int) po_none) pa_nil))))))))))), ?_⟩
    have small : ∀ {n : Nat}, n < 2 ^ 10 → n < 2 ^ 1000 := fun h => Nat.lt_of_lt_of_le h (Nat.pow_le_pow_right (by decide) (by decide))
    have big : 3000 ≤ sizeLine := by decide
    refine ⟨_, rfl, p, d, sd, c, 4, rfl, B, by decide, small (by decide), by omega, fun way d1 c1 H1 w0 w1 e1 B1 K1 => ?_⟩
    have K1 : KeepP p H H1 := K1
    refine ⟨_, rfl, _, _, rfl, rfl, _, _, rfl, ?_⟩
    refine ⟨fun τ G => τ = [some (.ref p), some (.int (n : Int)), some (.int way), some (.int (29 + (n : Int))), none, none, none, none] ∧ G = H1, ?_, ?_⟩
    · refine ⟨_, rfl, rfl, _, rfl, ite2 (fun z1 => ?_) (fun z1 => ⟨rfl, rfl⟩)⟩
      refine ⟨_, rfl, _, _, rfl, rfl, _, rfl, ite2 (fun z2 => ?_) (fun z2 => ⟨rfl, rfl⟩)⟩
      have z3 := of_decide_eq_true z2
      refine ⟨_, rfl, n, rfl, by omega, fun t o te sc ones tens hun scales H2 T l s2 => ?_⟩
      exact k t o te sc ones tens hun scales d1 c1 H2 (T.before K1 ⟨_, B1.at_⟩) l (B1.same s2) (by omega) (K1.trans (KeepP.of s2))
    rintro τ G ⟨rfl, rfl⟩
    refine ⟨fun τ G2 => ∃ (q : Addr) (l : List Str), τ = [some (.ref p), some (.int (n : Int)), some (.int way), some (.int (29 + (n : Int))), some (.ref q), none, none, none] ∧ G2 q = some (.lst (l.map V.str)) ∧ GoodRow l ∧ 49 ≤ l.length ∧ l.length ≤ 120 ∧ G q = none ∧ Same G G2, ?_, ?_⟩
    · refine ⟨_, rfl, _, _, rfl, rfl, _, rfl, ite2 (fun z => ?_) (fun z => ?_)⟩
      · refine ⟨"ab", 5, rfl, by decide, by decide, fun q G2 nq hq s2 => ⟨q, shN [97, 98] 5, rfl, hq, poolD1.1, ?_, ?_, nq, s2⟩⟩
        · rw [poolD1.2]; decide
        · rw [poolD1.2]; decide
      · refine ⟨"abc", 4, rfl, by decide, by decide, fun q G2 nq hq s2 => ⟨q, shN [97, 98, 99] 4, rfl, hq, poolD2.1, ?_, ?_, nq, s2⟩⟩
        · rw [poolD2.2]; decide
        · rw [poolD2.2]; decide
    rintro τ G2 ⟨q, l, rfl, hq, good, l0, l1, nq, s2⟩
    have B2 := B1.same s2
    have qp : q ≠ p := B1.ne nq
    refine ⟨fun τ G3 => ∃ (q : Addr) (l : List Str) (d3 c3 : Int), τ = [some (.ref p), some (.int (n : Int)), some (.int way), some (.int (29 + (n : Int))), some (.ref q), none, none, none] ∧ G3 q = some (.lst (l.map V.str)) ∧ GoodRow l ∧ 49 ≤ l.length ∧ l.length ≤ 120 ∧ G q = none ∧ RngAtD G3 p d3 sd c3 ∧ c3 ≤ c1 + 240 ∧ KeepP p G G3, ?_, ?_⟩
    · refine ⟨_, rfl, rfl, _, rfl, ite2 (fun z => ?_) (fun z => ⟨q, l, d1, c1, rfl, hq, good, l0, l1, nq, B2, by omega, KeepP.of s2⟩)⟩
      refine ⟨"xyz", 4, rfl, by decide, by decide, fun u G3 nu hu s3 => ?_⟩
      have hu : G3 u = some (.lst (xyz.map V.str)) := hu
      have B3 := B2.same s3
      have up : u ≠ p := B2.ne nu
      refine ⟨u, rfl, ⟨_, SqL.of hu⟩, fun L nL => ?_⟩
      have Lp : L ≠ p := B3.ne nL
      refine lc_list (K := K) (a := u) (xs := xyz.map V.str) (fun i G4 => ∃ (R : List Str) (d4 c4 : Int), G4 L = some (.lst (R.map V.str)) ∧ Lngs R (xyz.take i) ∧ RngAtD G4 p d4 sd c4 ∧ c4 ≤ c1 + 2 * (i : Int) ∧ KeepP p G3 G4)
        ⟨[], d1, c1, upd_same, Lngs.nil, B3.same (same_more (Same.refl _) nL), by omega, KeepP.of (same_more (Same.refl _) nL)⟩ (fun i G4 _ ⟨_, _, _, _, _, _, _, kk⟩ => SqL.of (kk _ _ hu up)) ?_ ?_
      · rintro i y G4 hi ⟨R, d4, c4, hL, lg, B4, e4, k4⟩
        obtain ⟨x, hx, rfl⟩ := str_at hi
        have il := (List.getElem?_eq_some_iff.mp hx).1
        rw [xyz_ok.1] at il
        obtain ⟨gx, x10⟩ := xyz_ok.2 x (List.mem_of_getElem? hx)
        have Rl := lg.len
        rw [List.length_take, xyz_ok.1] at Rl
        refine ⟨rfl, _, rfl, _, rfl, p, d4, sd, c4, x, rfl, B4, by omega, by omega, fun ch kk d5 c5 G5 hch hkk e5 B5 k5 => ?_⟩
        refine ⟨_, k5 _ _ hL Lp, by rw [List.length_map]; omega, R ++ [lng ch kk x], d5, c5, ?_, ?_, ?_, by omega, ?_⟩
        · rw [upd_same, List.map_append]
          rfl
        · rw [List.take_add_one, hx]
          exact lg.snoc hch hkk
        · exact ⟨by rw [upd_ne Lp.symm]; exact B5.at_, B5.d0, B5.s0, B5.s1, B5.c0⟩
        · intro v o e nv
          rw [upd_ne (ne_of_none e nL)]
          exact k5 _ _ (k4 _ _ e nv) nv
      · rintro G4 ⟨R, d4, c4, hL, lg, B4, e4, k4⟩
        rw [List.length_map, List.take_length] at lg
        have Rl := lg.len
        rw [xyz_ok.1] at Rl
        rw [List.length_map, xyz_ok.1] at e4
        refine ⟨L, R, rfl, SqL.of hL, by rw [Rl]; decide, fun st l' nst nd hm ln => ?_⟩
        have sS := same_more (x := SetTx P w st l') (Same.refl G4) nst
        refine ⟨st, l', rfl, upd_same, Nat.lt_of_le_of_lt ln (by rw [Rl]; decide), fun ys q2 pm ynd so nq2 => ?_⟩
        have g := lngs_good lg ynd fun x => (pm.mem_iff).trans (hm x)
        have s5 := same_more (x := .lst (ys.map V.str)) sS nq2
        have kall : KeepP p G _ := ((KeepP.of s2).trans (KeepP.of s3)).trans (k4.trans (KeepP.of s5))
        have yl := pm.length_eq
        refine ⟨q2, ys, d4, c4, rfl, upd_same, g.1, by omega, by omega, ?_, B4.same s5, by omega, kall⟩
        exact (((KeepP.of s2).trans (KeepP.of s3)).trans k4).free ⟨_, B4.at_⟩ (Same.free sS nq2)
    rintro τ G3 ⟨q, pool, d3, c3, rfl, h8, good, pl0, pl1, nq, B3, e3, K3⟩
    have qp : q ≠ p := B1.ne nq
    have nN : (29 + (n : Int)) = ((29 + n : Nat) : Int) := by omega
    refine ⟨fun τ G9 => ∃ (f : Addr) (fo : List Str) (d9 c9 : Int), τ = [some (.ref p), some (.int (n : Int)), some (.int way), some (.int (29 + (n : Int))), some (.ref q), some (.ref f), none, none] ∧ G9 f = some (.lst (fo.map V.str)) ∧ fo.length = 29 + n ∧ GoodRow fo ∧ RngAtD G9 p d9 sd c9 ∧ c9 ≤ c1 + 300 ∧ KeepP p G G9, ?_, ?_⟩
    · refine ⟨_, rfl, ((29 + n : Nat) : Int), congrArg (fun z => [V.int z]) nN, by omega, by omega, fun f nf => ?_⟩
      have qf : q ≠ f := ne_of_none h8 nf
      have fp : f ≠ p := B3.ne nf
      have nfG : G f = none := K3.free ⟨_, B3.at_⟩ nf
      refine lc_range (lo := 0) (n := (((29 + n : Nat) : Int)).toNat) (fun i G9 => ∃ (fo po : List Str) (d9 c9 : Int), G9 f = some (.lst (fo.map V.str)) ∧ G9 q = some (.lst (po.map V.str)) ∧ fo.length = i ∧ po.length + i = pool.length ∧ List.Perm (fo ++ po) pool ∧ RngAtD G9 p d9 sd c9 ∧ c9 ≤ c3 + (i : Int) ∧ KeepP p G G9)
        ⟨[], pool, d3, c3, upd_same, by rw [upd_ne qf]; exact h8, rfl, rfl, .refl _, B3.same (same_more (Same.refl _) nf), by omega, K3.trans (KeepP.of (same_more (Same.refl _) nf))⟩ ?_ ?_
      · rintro i G9 hi ⟨fo, po, d9, c9, hf, hq, fl, pl, pm, B9, e9, K9⟩
        have hi' : i < 29 + n := by omega
        refine ⟨rfl, _, rfl, .inl ⟨rfl, _, SqL.of hq⟩, _, rfl, _, rfl, q, _, rfl, .inl (SqL.of hq), p, d9, sd, c9, _, rfl, B9, ?_, small ?_, by omega, fun r d' c' Hx r0 r1 cx Bx kx => ?_⟩
        · rw [List.length_map]
          omega
        · rw [List.length_map]
          omega
        rw [List.length_map] at r1
        obtain ⟨kk, rfl⟩ : ∃ kk : Nat, r = (kk : Int) := ⟨r.toNat, by omega⟩
        have hk : kk < po.length := by omega
        obtain ⟨x, hx⟩ : ∃ x, po[kk]? = some x := ⟨_, List.getElem?_eq_getElem hk⟩
        have hqx := kx _ _ hq qp
        have hfx := kx _ _ hf fp
        refine ⟨q, _, _, kk, .str x, rfl, rfl, hqx, by omega, by omega, ?_, ?_, ?_⟩
        · rw [List.length_map]
          exact seqIndex_nat hk
        · rw [List.getElem?_map, hx]
          rfl
        refine ⟨_, by rw [upd_ne qf.symm]; exact hfx, by rw [List.length_map]; omega, fo ++ [x], po.eraseIdx kk, d', c', ?_, ?_, ?_, ?_, ?_, ⟨by rw [upd_ne fp.symm, upd_ne qp.symm]; exact Bx.at_, Bx.d0, Bx.s0, Bx.s1, Bx.c0⟩, by omega, fun u o e nu => ?_⟩
        · rw [upd_same, List.map_append]
          rfl
        · rw [upd_ne qf, upd_same, erase_map]
        · rw [List.length_append, fl]
          rfl
        · rw [List.length_eraseIdx, if_pos hk]
          omega
        · refine .trans ?_ pm
          rw [List.append_assoc]
          exact List.Perm.append_left _ (erase_perm hx)
        · have uf : u ≠ f := fun z => by
            rw [z, nfG] at e
            cases e
          have uq : u ≠ q := fun z => by
            rw [z, nq] at e
            cases e
          rw [upd_ne uf, upd_ne uq]
          exact kx _ _ (K9 u o e nu) nu
      · rintro G9 ⟨fo, po, d9, c9, hf, hq, fl, pl, pm, B9, e9, K9⟩
        have fl' : fo.length = 29 + n := by omega
        have g := (good.perm pm).left
        exact ⟨f, fo, d9, c9, rfl, hf, fl', g, B9, by omega, K9⟩
    rintro τ G9 ⟨f, fo, d9, c9, rfl, hf, fl', g, B9, e9, K9⟩
    obtain ⟨hun, hh⟩ : ∃ hun, fo[28]? = some hun := ⟨_, List.getElem?_eq_getElem (by omega)⟩
    have K9' := K1.trans K9
    have free9 : ∀ {x : Addr}, G9 x = none → H x = none := fun {x} nn => K9'.free ⟨_, B9.at_⟩ nn
    refine ⟨_, rfl, _, rfl, f, _, rfl, SqL.of hf, fun a1 n1 => ?_⟩
    have s1 := same_more (x := .lst (cutV (fo.map V.str) none (some 20))) (Same.refl G9) n1
    have h1 : upd G9 a1 (.lst (cutV (fo.map V.str) none (some 20))) a1 = some (.lst ((fo.take 20).map V.str)) := upd_same.trans (congrArg (fun z => some (HO.lst z)) (cut_a (k := 20) (by omega)))
    generalize upd G9 a1 (.lst (cutV (fo.map V.str) none (some 20))) = I1 at s1 h1
    refine ⟨_, rfl, _, rfl, _, rfl, f, _, rfl, SqL.of (s1 _ _ hf), fun a2 n2 => ?_⟩
    have s2' := same_more (x := .lst (cutV (fo.map V.str) (some 20) (some 28))) s1 n2
    have h2 : upd I1 a2 (.lst (cutV (fo.map V.str) (some 20) (some 28))) a2 = some (.lst (((fo.drop 20).take 8).map V.str)) := upd_same.trans (congrArg (fun z => some (HO.lst z)) (cut_b (k := 20) (j := 28) (by omega) (by omega)))
    have h1' := upd_keep (x := .lst (cutV (fo.map V.str) (some 20) (some 28))) h1 n2
    have d12 : a1 ≠ a2 := ne_of_none h1 n2
    have m2 := Same.free s1 n2
    generalize upd I1 a2 (.lst (cutV (fo.map V.str) (some 20) (some 28))) = I2 at s2' h2 h1'
    refine ⟨_, rfl, f, _, _, _, rfl, rfl, SqL.of (s2' _ _ hf), atI_nat (j := 28) (v := .str hun) (by rw [List.getElem?_map, hh]; rfl), ?_⟩
    refine ⟨_, rfl, _, rfl, f, _, rfl, SqL.of (s2' _ _ hf), fun a3 n3 => ?_⟩
    have s3' := same_more (x := .lst (cutV (fo.map V.str) (some 29) none)) s2' n3
    have h3 : upd I2 a3 (.lst (cutV (fo.map V.str) (some 29) none)) a3 = some (.lst ((fo.drop 29).map V.str)) := upd_same.trans (congrArg (fun z => some (HO.lst z)) (cut_c (k := 29) (by omega)))
    have h1'' := upd_keep (x := .lst (cutV (fo.map V.str) (some 29) none)) h1' n3
    have h2'' := upd_keep (x := .lst (cutV (fo.map V.str) (some 29) none)) h2 n3
    have d13 : a1 ≠ a3 := ne_of_none h1' n3
    have d23 : a2 ≠ a3 := ne_of_none h2 n3
    have m3 := Same.free s2' n3
    generalize upd I2 a3 (.lst (cutV (fo.map V.str) (some 29) none)) = I3 at s3' h3 h1'' h2''
    refine ⟨by show 4 ≤ sizeLine; decide, fun t nt => ?_⟩
    refine k t a1 a2 a3 (fo.take 20) ((fo.drop 20).take 8) hun (fo.drop 29) d9 c9 _ ⟨free9 (Same.free s3' nt), free9 n1, free9 m2, free9 m3, d12, d13, d23, ⟨upd_same, upd_keep h1'' nt, upd_keep h2'' nt, upd_keep h3 nt⟩, ?_, ?_, ?_⟩ ?_ (B9.same (same_more s3' nt)) (by omega) (K9'.trans (KeepP.of (same_more s3' nt)))
    · rw [List.length_take]
      omega
    · rw [List.length_take, List.length_drop]
      omega
    · rw [row_of hh]
      exact g
    · rw [List.length_drop]
      omega
end
end LB
set_option Elab.async false
set_option linter.all false
set_option maxRecDepth 100000
set_option maxHeartbeats 4000000
/-! Patterns, the program's own: a pattern tidied. -/
namespace LB
open PySem L2 Wk
def vI : It → V
  | none => .non
  | some x => .str x
def dI : It → PyData
  | none => .none
  | some x => .str x
theorem it_at {l : List It} {i : Nat} {y : V} (h : (l.map vI)[i]? = some y) : ∃ z, l[i]? = some z ∧ y = vI z := by
  rw [List.getElem?_map] at h
  cases q : l[i]? with
  | none => rw [q] at h; cases h
  | some z => rw [q] at h; exact ⟨z, rfl, (Option.some.inj h).symm⟩
theorem flat_non : ∀ b : Nat, (List.replicate b [V.non]).flatten = (List.replicate b (none : It)).map vI
  | 0 => rfl
  | b + 1 => by
    rw [List.replicate_succ, List.replicate_succ, List.flatten_cons, flat_non b]
    rfl
/-- the last item as a list -/
theorem cut_last (l : List V) : cutV l (some (-1)) none = l.drop (l.length - 1) := by
  have e : HT.sIx l.length 0 (some (-1)) = l.length - 1 := by
    unfold HT.sIx
    simp
    omega
  unfold cutV
  rw [e, show HT.sIx l.length l.length none = l.length from rfl]
  refine List.take_of_length_le ?_
  rw [List.length_drop]
  omega
theorem it_dp {K : PySem.W.Frag} {H : Hp} : ∀ l : List It, DpAll K H (l.map vI) (l.map dI)
  | [] => .nil
  | none :: l => .cons .non (it_dp l)
  | some x :: l => .cons (.str x) (it_dp l)
def okI : It → Bool
  | none => true
  | some x => PyData.strOk x
theorem one_shaped {x : Str} (h : PyData.strOk x = true) : SeqAt.shaped (.list [.str x]) = true := by
  unfold SeqAt.shaped
  simp [PyData.canLay0, PyData.canLayAll0, PyData.depth, PyData.depthAll, h]
theorem drop_last {ps : List It} (ok : ∀ x ∈ ps, okI x = true) : SeqAt.shaped (.list ((ps.drop (ps.length - 1)).map dI)) = true ∧ (!PyData.eqv (.list ((ps.drop (ps.length - 1)).map dI)) (.list [.str ""])) = !decide (ps.getLast? = some gp) := by
  rcases List.eq_nil_or_concat ps with rfl | ⟨ys, z, rfl⟩
  · exact ⟨by decide, rfl⟩
  · rw [List.concat_eq_append] at ok ⊢
    rw [List.length_append, show ys.length + [z].length - 1 = ys.length from rfl, List.drop_left, List.getLast?_append]
    cases z with
    | none => exact ⟨by decide, rfl⟩
    | some x =>
      refine ⟨one_shaped (ok (some x) (List.mem_append_right _ List.mem_cons_self)), ?_⟩
      show (!((x == "") && true)) = !decide (some (some x) = some gp)
      by_cases h : x = ""
      · subst h
        rfl
      · rw [decide_eq_false (fun w => h (Option.some.inj (Option.some.inj w))), beq_false_of_ne h]
        rfl
theorem tidW_ok (p : List It) (h : ∀ x ∈ p, okI x = true) : ∀ x ∈ (tidW p).1, okI x = true := by
  have key : ∀ (q : List It) (s : List It × Nat), (∀ x ∈ q, okI x = true) → (∀ x ∈ s.1, okI x = true) → ∀ x ∈ (q.foldl tidS s).1, okI x = true := by
    intro q
    induction q with
    | nil => exact fun s _ h => h
    | cons y q ih =>
      intro s hq hs
      refine ih (tidS s y) (fun x hx => hq x (List.mem_cons_of_mem _ hx)) fun x hx => ?_
      have hy := hq y List.mem_cons_self
      unfold tidS at hx
      by_cases c1 : y = none
      · rw [if_pos c1] at hx
        exact hs x hx
      rw [if_neg c1] at hx
      by_cases c2 : isGap y = true
      · rw [if_pos c2] at hx
        by_cases c3 : s.1.getLast? = some gp
        · rw [if_pos c3] at hx
          exact hs x hx
        · rw [if_neg c3] at hx
          rcases List.mem_append.mp hx with h | h
          · exact hs x h
          · rw [List.mem_singleton.mp h]
            exact hy
      · rw [if_neg c2] at hx
        rcases List.mem_append.mp hx with h | h
        · exact hs x h
        · rcases List.mem_append.mp h with h | h
          · rw [(List.mem_replicate.mp h).2]
            rfl
          · rw [List.mem_singleton.mp h]
            exact hy
  exact key p ([], 0) h fun x hx => by cases hx
theorem tid_ok (p : List It) (h : ∀ x ∈ p, okI x = true) : ∀ x ∈ tid p, okI x = true := fun x hx => by
  rcases List.mem_append.mp hx with m | m
  · exact tidW_ok p h x m
  · rw [(List.mem_replicate.mp m).2]
    rfl
def spTidied (K : PySem.W.Frag) : Sp := fun vs H Q _ => ∃ (a : Addr) (p : List It), vs = [.ref a] ∧ SqL K H a (p.map vI) ∧ p.length ≤ 40 ∧ (∀ x ∈ p, okI x = true) ∧ ∀ q H', H q = none → Same H H' → H' q = some (.lst ((tid p).map vI)) → Q (.ref q) H'
section
variable {P : Program} {w : World} {K : PySem.W.Frag} {mg : Str → Option Value} {base : Heap}
theorem scTidied : FnScope ["pattern", "parts", "blanks", "item"] ["pattern"] (defScope sTidied) := ⟨rfl, rfl, rfl, by decide +kernel, rfl, by decide +kernel, by decide +kernel⟩
theorem ok_tidied {f : Addr} {fd : FuncData} (F : Fun K "_tidied" "_tidied" sTidied f fd) : FnOk P w K mg base CX0 1 f fd ["pattern"] (spTidied K) := by
  refine F.ok scTidied (fun vs H Q E h => ?_) (fun cdv A outer s H vs Q E hr h => ?_)
  · obtain ⟨a, p, rfl, _⟩ := h
    rfl
  · obtain ⟨a, p, rfl, hp, l40, okp, k⟩ := h
    have big : 3000 ≤ sizeLine := by decide
    refine ⟨_, pss_cons (ps_set (i := 1) scTidied.nd rfl (.inl rfl) (pe_lst pa_nil))
        (pss_cons (ps_set (i := 2) scTidied.nd rfl (.inl rfl) pe_int)
        (pss_mid (ps_for PassesOwn.never rfl (pi_list (pv 0)) (pg_name (i := 3) scTidied.nd rfl (.inl rfl))
          (pss_one (ps_if (pt_cmpR op_isN (pv 3) pe_non (nomark _)) (pss_one (ps_set (i := 2) scTidied.nd rfl (.inl rfl) (pe_op op_add (pv 2) pe_int))) (pss_one (ps_if (pt_cmpR op_ne (pv 3) pe_str (nomark _)) (pss_cons (ps_expr (pe_bm PySem.F.plainAttrs_list PySem.F.slot_list_extend PySem.F.type_list_extend mt_extend (pv 1) (pa_cons (pe_op op_cat (pe_op op_rep (pe_lst (pa_cons pe_non pa_nil)) (pv 2)) (pe_lst (pa_cons (pv 3) pa_nil))) pa_nil))) (pss_one (ps_set (i := 2) scTidied.nd rfl (.inl rfl) pe_int))) (pss_one (ps_if (pt_cmpR (op_neD hr.units) (pe_slice sl_list (pv 1) (po_some (pe_un un_neg pe_int)) po_none) (pe_lst (pa_cons pe_str pa_nil)) (nomark _)) (pss_one (ps_expr (pe_bm PySem.F.plainAttrs_list PySem.F.slot_list_append PySem.F.type_list_append mt_append (pv 1) (pa_cons pe_str pa_nil)))) pss_nil)))))))
        (pss_one (ps_ret (pe_op op_cat (pv 1) (pe_op op_rep (pe_lst (pa_cons pe_non pa_nil)) (pv 2))))))), ?_⟩
    have sn : ∀ (l : List It) (x : It), tidW (l ++ [x]) = tidS (tidW l) x := fun l x => by
      unfold tidW
      rw [List.foldl_append]
      rfl
    refine ⟨by show 0 ≤ sizeLine; omega, fun q nq => ?_⟩
    have s1 := same_more (x := .lst []) (Same.refl H) nq
    refine ⟨fun τ G => ∃ x3 : Option V, τ = [some (.ref a), some (.ref q), some (.int ((tidW p).2 : Nat)), x3] ∧ G q = some (.lst ((tidW p).1.map vI)) ∧ Same H G, ?_, ?_⟩
    · refine ⟨_, rfl, a, rfl, ⟨_, s1.seq hp⟩, for_list (K := K) (a := a) (xs := p.map vI) (fun i σ G => ∃ x3 : Option V, σ = [some (.ref a), some (.ref q), some (.int ((tidW (p.take i)).2 : Nat)), x3] ∧ G q = some (.lst ((tidW (p.take i)).1.map vI)) ∧ Same H G)
        ⟨none, rfl, upd_same, s1⟩ (fun i σ G _ ⟨_, _, _, s⟩ => s.seq hp) ?_ ?_⟩
      · rintro i y σ G hi ⟨x3, rfl, hq, sG⟩
        obtain ⟨x, hx, rfl⟩ := it_at hi
        have il := (List.getElem?_eq_some_iff.mp hx).1
        have tk : tidW (p.take (i + 1)) = tidS (tidW (p.take i)) x := by
          rw [take_snoc hx, sn]
        have ln := tidW_len (p.take i)
        rw [List.length_take] at ln
        have keep : ∀ {v : Addr} {o o' : HO}, H v = some o → upd G q o' v = some o := fun e => by
          rw [upd_ne (ne_of_none e nq)]
          exact sG _ _ e
        have oks := tidW_ok (p.take i) fun x hx => okp x (List.mem_of_mem_take hx)
        rw [tk]
        generalize tidW (p.take i) = st at hq ln oks ⊢
        obtain ⟨ps, b⟩ := st
        simp only at hq ln oks ⊢
        cases x with
        | none =>
          refine ⟨_, rfl, rfl, _, rfl, ite2 (fun _ => ?_) (fun z => absurd rfl z)⟩
          exact ⟨_, rfl, _, _, rfl, rfl, _, rfl, hq, sG⟩
        | some s =>
          refine ⟨_, rfl, rfl, _, rfl, ite2 (fun z => absurd (of_decide_eq_true z) (fun w => by cases w)) (fun _ => ?_)⟩
          by_cases hs : s = ""
          · subst hs
            have ng : ¬ ((some "" : It) = none) := fun z => by cases z
            have gg : isGap (some "") = true := rfl
            refine ⟨_, rfl, rfl, _, rfl, ite2 (fun z => absurd z (by decide)) (fun _ => ?_)⟩
            refine ⟨_, rfl, _, rfl, _, rfl, q, _, rfl, SqL.of hq, fun u nu => ?_⟩
            refine ⟨by show 1 ≤ sizeLine; omega, fun c nc => ?_⟩
            have hu : upd (upd G u (.lst (cutV (ps.map vI) (some (-1)) none))) c (.lst [.str ""]) u = some (.lst ((ps.drop (ps.length - 1)).map vI)) := by
              rw [upd_keep upd_same nc, cut_last, List.length_map, List.map_drop]
            have sh2 := drop_last oks
            refine ⟨.list ((ps.drop (ps.length - 1)).map dI), .list [.str ""], .lst (SqL.of hu) (it_dp _), .lst (SqL.of upd_same) (.cons (.str _) .nil), sh2.1, one_shaped (by decide +kernel), ?_⟩
            rw [sh2.2]
            have ts : tidS (ps, b) gp = if ps.getLast? = some gp then (ps, b) else (ps ++ [gp], b) := by
              unfold tidS
              rw [if_neg ng, if_pos gg]
            rw [ts]
            have kp : Same H (upd (upd G u (.lst (cutV (ps.map vI) (some (-1)) none))) c (.lst [.str ""])) := same_more (same_more sG nu) nc
            have hq2 := upd_keep (upd_keep hq nu) (x := .lst [.str ""]) nc
            refine ⟨_, rfl, ite2 (fun z => ?_) (fun z => ?_)⟩
            · have nl : ¬ ps.getLast? = some gp := fun w => by
                rw [decide_eq_true w] at z
                cases z
              rw [if_neg nl]
              refine ⟨_, rfl, .inl ⟨rfl, _, SqL.of hq2⟩, q, _, _, rfl, rfl, hq2, by rw [List.length_map]; show _ < sizeLine; omega, ?_⟩
              refine ⟨_, rfl, ?_, fun r o e => ?_⟩
              · rw [upd_same, List.map_append]
                rfl
              · rw [upd_ne (ne_of_none e nq)]
                exact kp _ _ e
            · have yl : ps.getLast? = some gp := by
                by_cases w : ps.getLast? = some gp
                · exact w
                · rw [decide_eq_false w] at z
                  exact absurd rfl z
              rw [if_pos yl]
              exact ⟨_, rfl, hq2, kp⟩
          · have ng : ¬ ((some s : It) = none) := fun z => by cases z
            have gg : ¬ isGap (some s) = true := fun z => hs (Option.some.inj (eq_of_beq z))
            have ts : tidS (ps, b) (some s) = (ps ++ (List.replicate b none ++ [some s]), 0) := by
              unfold tidS
              rw [if_neg ng, if_neg gg]
            rw [ts]
            refine ⟨_, rfl, rfl, _, rfl, ite2 (fun _ => ?_) (fun z => absurd (show (!decide (V.str s = V.str "")) = true by rw [decide_eq_false (fun w => hs (V.str.inj w))]; rfl) z)⟩
            refine ⟨_, rfl, .inl ⟨rfl, _, SqL.of hq⟩, by show 1 ≤ sizeLine; omega, fun u nu => ?_⟩
            refine ⟨_, rfl, u, _, _, rfl, rfl, upd_same, by omega, by omega, by show 1 * (b : Int).toNat ≤ sizeLine; omega, fun v nv => ?_⟩
            refine ⟨_, rfl, by show 1 ≤ sizeLine; omega, fun c nc => ?_⟩
            have e1 : (List.replicate ((b : Int)).toNat [V.non]).flatten = (List.replicate b (none : It)).map vI := flat_non b
            refine ⟨v, c, _, _, rfl, rfl, upd_keep upd_same nc, upd_same, ?_, fun d nd => ?_⟩
            · rw [e1, List.length_map, List.length_replicate]
              show b + 1 ≤ sizeLine
              omega
            refine ⟨q, d, _, _, rfl, rfl, upd_keep (upd_keep (upd_keep (upd_keep hq nu) nv) nc) nd, upd_same, ?_, ?_⟩
            · rw [e1, List.length_append, List.length_map, List.length_map, List.length_replicate]
              show ps.length + (b + 1) ≤ sizeLine
              omega
            refine ⟨_, rfl, ?_, fun r o e => ?_⟩
            · rw [upd_same, e1, List.map_append, List.map_append]
              rfl
            · rw [upd_ne (ne_of_none e nq)]
              exact upd_keep (upd_keep (upd_keep (upd_keep (sG _ _ e) nu) nv) nc) nd
      · rintro σ G ⟨x3, rfl, hq, sG⟩
        rw [List.length_map, List.take_length] at hq ⊢
        exact ⟨x3, rfl, hq, sG⟩
    rintro τ G ⟨x3, rfl, hq, sG⟩
    have ln := tidW_len p
    refine ⟨_, rfl, by show 1 ≤ sizeLine; omega, fun u nu => ?_⟩
    refine ⟨_, rfl, u, _, _, rfl, rfl, upd_same, by omega, by omega, by show 1 * (((tidW p).2 : Nat) : Int).toNat ≤ sizeLine; omega, fun v nv => ?_⟩
    have e1 : (List.replicate ((((tidW p).2 : Nat) : Int)).toNat [V.non]).flatten = (List.replicate (tidW p).2 (none : It)).map vI := flat_non _
    have s3 := same_more (x := .lst (List.replicate ((((tidW p).2 : Nat) : Int)).toNat [V.non]).flatten) (same_more (x := .lst [V.non]) sG nu) nv
    refine ⟨q, v, _, _, rfl, rfl, upd_keep (upd_keep hq nu) nv, upd_same, ?_, fun c nc => ?_⟩
    · rw [e1, List.length_map, List.length_map, List.length_replicate]
      show _ ≤ sizeLine
      omega
    refine k c _ (Same.free s3 nc) (same_more s3 nc) ?_
    rw [upd_same, e1, ← List.map_append]
    rfl

end
end LB
set_option Elab.async false
set_option linter.all false
set_option maxRecDepth 100000
set_option maxHeartbeats 4000000
/-! Patterns, the program's own: places in one integer. -/
namespace LB
open PySem L2 Wk
theorem scal_it (x y : It) : scal (vI x) (vI y) = true := by
  cases x <;> cases y <;> rfl
theorem vI_inj {x y : It} : vI x = vI y ↔ x = y := by
  cases x <;> cases y <;> simp [vI]
/-- the places of an item, as bits -/
def mk (p : List It) (x : It) : Nat → Nat
  | 0 => 0
  | i + 1 => if p[i]? = some x then 2 ^ i + mk p x i else mk p x i
theorem mk_succ (p : List It) (x : It) (i : Nat) : mk p x (i + 1) = if p[i]? = some x then 2 ^ i + mk p x i else mk p x i := rfl
theorem mk_lt (p : List It) (x : It) : ∀ i, mk p x i < 2 ^ i
  | 0 => Nat.one_pos
  | i + 1 => by
    have h := mk_lt p x i
    rw [mk_succ, Nat.pow_succ]
    split <;> omega
theorem mk_bit (p : List It) (x : It) : ∀ i k, (mk p x i).testBit k = true ↔ k < i ∧ p[k]? = some x
  | 0, k => by
    show (0 : Nat).testBit k = true ↔ _
    rw [Nat.zero_testBit]
    exact ⟨(fun h => by cases h), fun h => absurd h.1 (Nat.not_lt_zero _)⟩
  | i + 1, k => by
    have ih := mk_bit p x i
    have lt := mk_lt p x i
    rw [mk_succ]
    by_cases c : p[i]? = some x
    · rw [if_pos c]
      rcases Nat.lt_trichotomy k i with h | h | h
      · rw [Nat.testBit_two_pow_add_gt h, ih]
        exact ⟨fun h => ⟨by omega, h.2⟩, fun a => ⟨h, a.2⟩⟩
      · subst h
        rw [Nat.testBit_two_pow_add_eq, Nat.testBit_lt_two_pow lt]
        exact ⟨fun _ => ⟨by omega, c⟩, fun _ => rfl⟩
      · have : (2 ^ i + mk p x i) < 2 ^ k := Nat.lt_of_lt_of_le (show 2 ^ i + mk p x i < 2 ^ (i + 1) by rw [Nat.pow_succ]; omega) (Nat.pow_le_pow_right (by decide) h)
        rw [Nat.testBit_lt_two_pow this]
        exact ⟨(fun h => by cases h), fun a => absurd a.1 (by omega)⟩
    · rw [if_neg c, ih]
      constructor
      · exact fun h => ⟨by omega, h.2⟩
      · rintro ⟨a, b⟩
        refine ⟨?_, b⟩
        rcases Nat.lt_or_ge k i with h | h
        · exact h
        · obtain rfl : k = i := by omega
          exact absurd b c
def spPlaces : Sp := fun vs H Q _ => ∃ (a : Addr) (p : List It) (x : It), vs = [vI x, .ref a] ∧ H a = some (.lst (p.map vI)) ∧ p.length ≤ 40 ∧ ∀ H', Same H H' → Q (.int ((mk p x p.length : Nat) : Int)) H'
section
variable {P : Program} {w : World} {K : PySem.W.Frag} {mg : Str → Option Value} {base : Heap}
theorem scPlaces : FnScope ["item", "parts", "at", "part"] ["item", "parts"] (defScope sPlacesOf) := ⟨rfl, rfl, rfl, by decide +kernel, rfl, by decide +kernel, by decide +kernel⟩
theorem ok_places {f : Addr} {fd : FuncData} (F : Fun K "_places_of" "_places_of" sPlacesOf f fd) (mE : mg "enumerate" = none) (mU : mg "sum" = none) : FnOk P w K mg base CX0 1 f fd ["item", "parts"] spPlaces := by
  refine F.ok scPlaces (fun vs H Q E h => ?_) (fun cdv A outer s H vs Q E hr h => ?_)
  · obtain ⟨a, p, x, rfl, _⟩ := h
    rfl
  · obtain ⟨a, p, x, rfl, hp, l40, k⟩ := h
    have big : 3000 ≤ sizeLine := by decide
    refine ⟨_, pss_one (ps_ret (pe_callB (cr_sum rfl) (by rfl) mU (by decide +kernel) (pa_cons (pe_lc (own := [("at", 2), ("part", 3)]) (g := gTup K 2 (gCons (gName 2) (gCons (gName 3) gNil))) (by rfl) scPlaces.nd (pi_enum rfl mE (pa_cons (pv 1) pa_nil)) (blkOk_by (own := [("at", 2), ("part", 3)]) (N := ["item", "parts", "at", "part"]) (sc := defScope sPlacesOf) (by decide +kernel)) (fun _ _ _ _ _ => pg_tup (by rfl) (pgs_cons (pg_name (i := 2) scPlaces.nd rfl (Or.inl rfl)) (pgs_cons (pg_name (i := 3) scPlaces.nd rfl (Or.inl rfl)) pgs_nil))) (fun _ _ _ _ _ => pts_one (pt_cmpR op_eq (pv 3) (pv 0) (nomark _))) (fun _ _ _ _ _ => pe_op op_oneShl pe_int (pv 2))) pa_nil))), ?_⟩
    refine ⟨_, rfl, a, _, rfl, SqL.of hp, fun D nD => lc_it (walk_enum (K := K) (a := a) (xs := p.map vI)) (fun i G => ∃ ns : List Int, G D = some (.lst (ns.map V.int)) ∧ ns.length ≤ i ∧ ns.sum = ((mk p x i : Nat) : Int) ∧ Same H G) ⟨[], upd_same, Nat.le_refl _, rfl, same_new nD⟩ (fun i G _ ⟨_, _, _, _, s⟩ => SqL.of (s _ _ hp)) ?_ ?_⟩
    · rintro i y J J' hi ⟨ns, hD, ln, es, sJ⟩ ⟨T, y1, y2, rfl, nT, rfl, hy1, hy2⟩
      cases hy1
      obtain ⟨z, hz, rfl⟩ := it_at hy2
      have il := (List.getElem?_eq_some_iff.mp hz).1
      refine ⟨T, _, rfl, SqT.of upd_same, rfl, _, _, rfl, _, _, rfl, rfl, rfl, ?_⟩
      refine ⟨_, rfl, _, rfl, scal_it z x, _, rfl, ite2 (fun c => ?_) (fun c => ?_)⟩
      · have zx : z = x := vI_inj.mp (of_decide_eq_true c)
        refine ⟨_, rfl, i, rfl, rfl, by omega, ?_⟩
        refine ⟨_, upd_keep hD nT, by rw [List.length_map]; omega, ns ++ [((2 ^ i : Nat) : Int)], ?_, ?_, ?_, fun q' o' e' => ?_⟩
        · rw [upd_same, List.map_append]
          simp
        · rw [List.length_append]
          exact Nat.add_le_add_right ln 1
        · rw [List.sum_append, es]
          rw [mk_succ, if_pos (by rw [hz, zx]), Int.natCast_add]
          show _ + (((2 ^ i : Nat) : Int) + 0) = _
          omega
        · rw [upd_ne (ne_of_none e' nD)]
          exact upd_keep (sJ _ _ e') nT
      · have zx : z ≠ x := fun e => c (decide_eq_true (vI_inj.mpr e))
        refine ⟨ns, upd_keep hD nT, by omega, ?_, same_more sJ nT⟩
        rw [es, mk_succ, if_neg (fun e => zx (Option.some.inj (hz.symm.trans e)))]
    · rintro J ⟨ns, hD, ln, es, sJ⟩
      rw [List.length_map] at es
      refine ⟨D, ns, rfl, SqL.of hD, ?_⟩
      rw [es]
      exact k J sJ
end
end LB
set_option Elab.async false
set_option linter.all false
set_option maxRecDepth 100000
set_option maxHeartbeats 4000000
/-! Patterns, the program's own: the reader. -/
namespace LB
open PySem L2 Wk
theorem bor_nat (a b : Nat) : Builtin.bitOr (a : Int) (b : Int) = ((a ||| b : Nat) : Int) := by
  have n : ∀ x : Nat, Builtin.bitNot (x : Int) = -((x : Int) + 1) := fun x => by
    unfold Builtin.bitNot
    omega
  have n2 : ∀ x : Nat, Builtin.bitNot (-((x : Int) + 1)) = (x : Int) := fun x => by
    unfold Builtin.bitNot
    omega
  unfold Builtin.bitOr
  rw [n a, n b]
  unfold Builtin.bitAnd
  rw [decide_eq_false (show ¬ (0 : Int) ≤ -((a : Int) + 1) by omega), decide_eq_false (show ¬ (0 : Int) ≤ -((b : Int) + 1) by omega)]
  simp only
  rw [n2, n2, Int.toNat_natCast, Int.toNat_natCast, n, n2]
/-- the class -/
structure RdC (K : PySem.W.Frag) (C : Addr) : Prop where
  cls : Cls K C
  np : NoAttr K C "parts"
  ne : NoAttr K C "end"
  ng : NoAttr K C "gaps"
  nb : NoAttr K C "blanks"
  nl : NoAttr K C "last_gap"
  nt : NoAttr K C "takers"
  nf : NoAttr K C "first"
  na : NoAttr K C "last"
/-- its attributes -/
def rdL (p d : Addr) (n G B lg fi la : Nat) : List (Str × V) := [("parts", .ref p), ("end", .int ((2 ^ n : Nat) : Int)), ("gaps", .int (G : Int)), ("blanks", .int (B : Int)), ("last_gap", .int (lg : Int)), ("takers", .ref d), ("first", .int (fi : Int)), ("last", .int (la : Int))]
def acr (x G : Nat) : Nat := x ||| ((x &&& G) * 2)
def spAcross (C : Addr) : Sp := fun vs H Q _ => ∃ (a dx : Addr) (fs : List (Str × V)) (x G : Nat), vs = [.ref a, .int (x : Int)] ∧ H a = some (.ins C dx fs) ∧ fs.lookup ("gaps" : Str) = some (V.int (G : Int)) ∧ x < 2 ^ 60 ∧ Q (.int ((acr x G : Nat) : Int)) H
def tkr (kvs : List (Key × V)) (B : Nat) (w : Str) (T : Nat) : Prop := valV kvs (Sum.inr w) = some (.int (T : Int)) ∨ (valV kvs (Sum.inr w) = none ∧ T = B)
def spTakers (C : Addr) : Sp := fun vs H Q _ => ∃ (a dx p d : Addr) (n G B lg fi la : Nat) (w : Str) (kvs : List (Key × V)) (T : Nat), vs = [.ref a, .str w] ∧ H a = some (.ins C dx (rdL p d n G B lg fi la)) ∧ H d = some (.dK kvs) ∧ tkr kvs B w T ∧ Q (.int (T : Int)) H
def rdN (x T G : Nat) : Nat := acr (((x &&& T) * 2) ||| (x &&& G)) G
def spRead (C : Addr) : Sp := fun vs H Q _ => ∃ (a dx p d : Addr) (n G B lg fi la x T : Nat), vs = [.ref a, .int (x : Int), .int (T : Int)] ∧ H a = some (.ins C dx (rdL p d n G B lg fi la)) ∧ x < 2 ^ 50 ∧ Q (.int ((rdN x T G : Nat) : Int)) H
theorem and_le (a b : Nat) : a &&& b ≤ a := Nat.and_le_left
section
variable {P : Program} {w : World} {K : PySem.W.Frag} {mg : Str → Option Value} {base : Heap} {C : Addr}
theorem scAcross : FnScope ["self", "places"] ["self", "places"] (defScope (inClass cReader 7)) := ⟨rfl, rfl, rfl, by decide +kernel, rfl, by decide +kernel, by decide +kernel⟩
theorem ok_across {f : Addr} {fd : FuncData} (F : Fun K "_across" "Reader._across" (inClass cReader 7) f fd) (RC : RdC K C) : FnOk P w K mg base CX0 1 f fd ["self", "places"] (spAcross C) := by
  refine F.ok scAcross (fun vs H Q E h => ?_) (fun cdv A outer s H vs Q E hr h => ?_)
  · obtain ⟨a, dx, fs, x, G, rfl, _⟩ := h
    rfl
  · obtain ⟨a, dx, fs, x, G, rfl, ha, hg, x60, k⟩ := h
    refine ⟨_, pss_one (ps_ret (pe_op op_or (pv 1) (pe_op op_shl (pe_op op_and (pv 1) (pe_fld (pv 0) rfl)) pe_int))), ?_⟩
    have le := and_le x G
    refine ⟨_, rfl, _, rfl, _, rfl, a, C, dx, fs, _, rfl, ha, RC.cls, RC.ng, hg, _, _, rfl, rfl, _, _, rfl, rfl, ?_, _, _, rfl, rfl, ?_⟩
    · rw [PySem.W.os_band]
      exact ⟨by decide, by decide, by omega⟩
    · rw [PySem.W.os_band]
      have e : ((x &&& G : Nat) : Int) * 2 ^ (1 : Int).toNat = (((x &&& G) * 2 : Nat) : Int) := by
        rw [Int.natCast_mul]
        rfl
      rw [e]
      show Q (.int (Builtin.bitOr (x : Int) (((x &&& G) * 2 : Nat) : Int))) H
      rw [bor_nat]
      exact k
theorem scTakersOf : FnScope ["self", "word"] ["self", "word"] (defScope (inClass cReader 1)) := ⟨rfl, rfl, rfl, by decide +kernel, rfl, by decide +kernel, by decide +kernel⟩
theorem ok_takersOf {f : Addr} {fd : FuncData} (F : Fun K "takers_of" "Reader.takers_of" (inClass cReader 1) f fd) (RC : RdC K C) : FnOk P w K mg base CX0 1 f fd ["self", "word"] (spTakers C) := by
  refine F.ok scTakersOf (fun vs H Q E h => ?_) (fun cdv A outer s H vs Q E hr h => ?_)
  · obtain ⟨a, dx, p, d, n, G, B, lg, fi, la, w, kvs, T, rfl, _⟩ := h
    rfl
  · obtain ⟨a, dx, p, d, n, G, B, lg, fi, la, w, kvs, T, rfl, ha, hd, ht, k⟩ := h
    have hu := hu_of hr
    refine ⟨_, pss_one (ps_ret (pe_dget2 hu (pe_fld (pv 0) rfl) (pv 1) (pe_fld (pv 0) rfl) ⟨rfl, rfl, rfl, rfl⟩)), ?_⟩
    refine ⟨_, rfl, a, C, dx, _, _, rfl, ha, RC.cls, RC.nt, rfl, d, rfl, .inl ⟨kvs, .inl hd⟩, _, rfl, _, rfl, a, C, dx, _, _, rfl, ha, RC.cls, RC.nb, rfl, valV kvs (Sum.inr w), DGet.k (k := Sum.inr w) hd, ?_⟩
    rcases ht with h | ⟨h, rfl⟩
    · rw [h]
      exact k
    · rw [h]
      exact k
theorem scRead : FnScope ["self", "places", "takers"] ["self", "places", "takers"] (defScope (inClass cReader 2)) := ⟨rfl, rfl, rfl, by decide +kernel, rfl, by decide +kernel, by decide +kernel⟩
theorem ok_read {f fA : Addr} {fd dA : FuncData} (F : Fun K "read" "Reader.read" (inClass cReader 2) f fd) (RC : RdC K C) (mA : Meth K C "_across" fA) (PA : FnOk P w K mg base CX0 1 fA dA ["self", "places"] (spAcross C)) (bA : Binds K dA ["self", "places"] []) : FnOk P w K mg base CX0 2 f fd ["self", "places", "takers"] (spRead C) := by
  refine F.ok scRead (fun vs H Q E h => ?_) (fun cdv A outer s H vs Q E hr h => ?_)
  · obtain ⟨a, dx, p, d, n, G, B, lg, fi, la, x, T, rfl, _⟩ := h
    rfl
  · obtain ⟨a, dx, p, d, n, G, B, lg, fi, la, x, T, rfl, ha, x50, k⟩ := h
    have hr1 : Room 1 _ := hr
    refine ⟨_, pss_one (ps_ret (pe_meth (pv 0) RC.cls mA PA (by exact hr1) bA .nil pass0 (pa_cons (pe_op op_or (pe_op op_shl (pe_op op_and (pv 1) (pv 2)) pe_int) (pe_op op_and (pv 1) (pe_fld (pv 0) rfl))) pa_nil))), ?_⟩
    have l1 := and_le x T
    have l2 := and_le x G
    refine ⟨_, rfl, a, dx, _, rfl, ha, rfl, _, rfl, _, rfl, _, _, rfl, rfl, _, _, rfl, rfl, ?_, ?_⟩
    · rw [PySem.W.os_band]
      exact ⟨by decide, by decide, by omega⟩
    refine ⟨_, rfl, _, rfl, a, C, dx, _, _, rfl, ha, RC.cls, RC.ng, rfl, _, _, rfl, rfl, _, _, rfl, rfl, ?_⟩
    have e : ((x &&& T : Nat) : Int) * 2 ^ (1 : Int).toNat = (((x &&& T) * 2 : Nat) : Int) := by
      rw [Int.natCast_mul]
      rfl
    rw [PySem.W.os_band, PySem.W.os_band, e]
    refine ⟨a, dx, _, _, G, congrArg (fun z => [V.ref a, V.int z]) (bor_nat ((x &&& T) * 2) (x &&& G)), ha, rfl, ?_, k⟩
    exact Nat.lt_of_lt_of_le (Nat.or_lt_two_pow (n := 51) (by omega) (by omega)) (by decide)
end
end LB
set_option Elab.async false
set_option linter.all false
set_option maxRecDepth 100000
set_option maxHeartbeats 4000000
/-! Patterns, the program's own: a name read. -/
namespace LB
open PySem L2 Wk
theorem and_bit (X n : Nat) : 0 < X &&& 2 ^ n ↔ X.testBit n = true := by
  constructor
  · intro h
    cases c : X.testBit n with
    | true => rfl
    | false =>
      have z : X &&& 2 ^ n = 0 := by
        refine Nat.eq_of_testBit_eq fun i => ?_
        rw [Nat.testBit_and, Nat.testBit_two_pow, Nat.zero_testBit]
        by_cases e : n = i
        · rw [← e, c, Bool.false_and]
        · rw [decide_eq_false e, Bool.and_false]
      rw [z] at h
      exact absurd h (Nat.lt_irrefl 0)
  · intro h
    refine Nat.pos_of_ne_zero fun z => ?_
    have q : (X &&& 2 ^ n).testBit n = true := by
      rw [Nat.testBit_and, Nat.testBit_two_pow, h, decide_eq_true rfl]
      rfl
    rw [z, Nat.zero_testBit] at q
    cases q
theorem bit2 (x k : Nat) : (x * 2).testBit k = true ↔ ∃ i, k = i + 1 ∧ x.testBit i = true := by
  have e : x * 2 = x <<< 1 := by rw [Nat.shiftLeft_eq]
  rw [e, Nat.testBit_shiftLeft]
  cases k with
  | zero => exact ⟨(fun h => by simp at h), fun ⟨i, h, _⟩ => by omega⟩
  | succ k =>
    rw [show decide (k + 1 ≥ 1) = true from decide_eq_true (by omega), Bool.true_and, Nat.add_sub_cancel]
    exact ⟨fun h => ⟨k, rfl, h⟩, fun ⟨i, e, h⟩ => by rw [show k = i by omega]; exact h⟩
theorem bitA (x y k : Nat) : (x &&& y).testBit k = true ↔ x.testBit k = true ∧ y.testBit k = true := by
  rw [Nat.testBit_and, Bool.and_eq_true]
theorem bitO (x y k : Nat) : (x ||| y).testBit k = true ↔ x.testBit k = true ∨ y.testBit k = true := by
  rw [Nat.testBit_or, Bool.or_eq_true]
theorem rdN_bit (x T G k : Nat) : (rdN x T G).testBit k = true ↔ ((∃ i, k = i + 1 ∧ x.testBit i = true ∧ T.testBit i = true) ∨ (x.testBit k = true ∧ G.testBit k = true)) ∨
    ∃ i, k = i + 1 ∧ G.testBit i = true ∧ ((∃ h, i = h + 1 ∧ x.testBit h = true ∧ T.testBit h = true) ∨ (x.testBit i = true ∧ G.testBit i = true)) := by
  have y : ∀ k, (((x &&& T) * 2) ||| (x &&& G)).testBit k = true ↔ (∃ i, k = i + 1 ∧ x.testBit i = true ∧ T.testBit i = true) ∨ (x.testBit k = true ∧ G.testBit k = true) := by
    intro k
    rw [bitO, bit2, bitA]
    refine or_congr (exists_congr fun i => and_congr Iff.rfl (bitA _ _ _)) Iff.rfl
  unfold rdN acr
  rw [bitO, bit2, y]
  refine or_congr Iff.rfl (exists_congr fun i => and_congr Iff.rfl ?_)
  rw [bitA, y]
  exact And.comm
/-- what the reader of a pattern holds -/
structure RdAt (H : Hp) (C a dx : Addr) (P : List It) (p d : Addr) (G B lg fi la : Nat) (kvs : List (Key × V)) : Prop where
  at_ : H a = some (.ins C dx (rdL p d P.length G B lg fi la))
  dict : H d = some (.dK kvs)
  gg : NoGG P
  l40 : P.length ≤ 40
  hG : G = mk P gp P.length
  hB : B = mk P none P.length
  tk : ∀ w : Str, w ≠ "" → tkr kvs B w (B ||| mk P (some w) P.length)
  fst : ∀ k, fi.testBit k = true ↔ k = 0 ∨ (k = 1 ∧ P[0]? = some gp)
theorem tk_bit (P : List It) {w : Str} (hw : w ≠ "") (k : Nat) : (mk P none P.length ||| mk P (some w) P.length).testBit k = true ↔ ∃ x, P[k]? = some x ∧ takesW x w = true := by
  rw [bitO, mk_bit, mk_bit]
  constructor
  · rintro (⟨_, h⟩ | ⟨_, h⟩)
    · exact ⟨none, h, rfl⟩
    · refine ⟨some w, h, ?_⟩
      have : isGap (some w) = false := by
        cases c : isGap (some w) with
        | false => rfl
        | true => exact absurd (Option.some.inj (eq_of_beq c)) hw
      unfold takesW
      rw [this]
      simp
  · rintro ⟨x, hx, t⟩
    have kl := (List.getElem?_eq_some_iff.mp hx).1
    unfold takesW at t
    rw [Bool.or_eq_true, Bool.and_eq_true] at t
    rcases t with t | ⟨t, _⟩
    · exact .inl ⟨kl, by rw [hx, eq_of_beq t]⟩
    · exact .inr ⟨kl, by rw [hx, eq_of_beq t]⟩
/-- one word more, in bits -/
theorem rdN_step {P : List It} (g : NoGG P) {ws : List Str} {j : Nat} {w : Str} (hw : ws[j]? = some w) (hn : w ≠ "") {x : Nat} (hx : ∀ k, k ≤ P.length → (x.testBit k = true ↔ plcB ws P k j)) {k : Nat} (hk : k ≤ P.length) :
    (rdN x (mk P none P.length ||| mk P (some w) P.length) (mk P gp P.length)).testBit k = true ↔ plcB ws P k (j + 1) := by
  rw [rdN_bit, plcB_succ g hw hk]
  have A : ∀ k, k ≤ P.length → ((∃ i, k = i + 1 ∧ x.testBit i = true ∧ (mk P none P.length ||| mk P (some w) P.length).testBit i = true) ↔ ∃ i y, k = i + 1 ∧ plcB ws P i j ∧ P[i]? = some y ∧ takesW y w = true) := by
    intro k hk
    constructor
    · rintro ⟨i, e, a, b⟩
      obtain ⟨y, hy, t⟩ := (tk_bit P hn i).mp b
      exact ⟨i, y, e, (hx i (by omega)).mp a, hy, t⟩
    · rintro ⟨i, y, e, a, hy, t⟩
      exact ⟨i, e, (hx i (by omega)).mpr a, (tk_bit P hn i).mpr ⟨y, hy, t⟩⟩
  have Gb : ∀ i, (mk P gp P.length).testBit i = true ↔ P[i]? = some gp := fun i => by
    rw [mk_bit]
    exact ⟨fun h => h.2, fun h => ⟨(List.getElem?_eq_some_iff.mp h).1, h⟩⟩
  refine or_congr (or_congr (A k hk) (and_congr (hx k hk) (Gb k))) (exists_congr fun i => ?_)
  constructor
  · rintro ⟨e, a, h | ⟨h, _⟩⟩
    · exact ⟨e, (Gb i).mp a, .inl ((A i (by omega)).mp h)⟩
    · exact ⟨e, (Gb i).mp a, .inr ((hx i (by omega)).mp h)⟩
  · rintro ⟨e, a, h | h⟩
    · exact ⟨e, (Gb i).mpr a, .inl ((A i (by omega)).mpr h)⟩
    · exact ⟨e, (Gb i).mpr a, .inr ⟨(hx i (by omega)).mpr h, (Gb i).mpr a⟩⟩
theorem rdN_lt {P : List It} {w : Str} {x : Nat} (l : P.length ≤ 40) : rdN x (mk P none P.length ||| mk P (some w) P.length) (mk P gp P.length) < 2 ^ (P.length + 1) := by
  have a := mk_lt P none P.length
  have b := mk_lt P (some w) P.length
  have c := mk_lt P gp P.length
  have d := Nat.or_lt_two_pow a b
  have e1 : x &&& (mk P none P.length ||| mk P (some w) P.length) < 2 ^ P.length := Nat.lt_of_le_of_lt Nat.and_le_right d
  have e2 : x &&& mk P gp P.length < 2 ^ P.length := Nat.lt_of_le_of_lt Nat.and_le_right c
  have p2 : 2 ^ (P.length + 1) = 2 ^ P.length * 2 := Nat.pow_succ ..
  have y : ((x &&& (mk P none P.length ||| mk P (some w) P.length)) * 2) ||| (x &&& mk P gp P.length) < 2 ^ (P.length + 1) := Nat.or_lt_two_pow (by omega) (by omega)
  unfold rdN acr
  refine Nat.or_lt_two_pow y ?_
  have z : (((x &&& (mk P none P.length ||| mk P (some w) P.length)) * 2) ||| (x &&& mk P gp P.length)) &&& mk P gp P.length < 2 ^ P.length := Nat.lt_of_le_of_lt Nat.and_le_right c
  omega
def spReadAll (K : PySem.W.Frag) (C : Addr) : Sp := fun vs H Q _ => ∃ (a dx : Addr) (P : List It) (p d : Addr) (G B lg fi la : Nat) (kvs : List (Key × V)) (l : Addr) (ws : List Str), vs = [.ref a, .int (fi : Int), .ref l] ∧ RdAt H C a dx P p d G B lg fi la kvs ∧ fi < 2 ^ (P.length + 1) ∧ SqL K H l (ws.map V.str) ∧ (∀ w ∈ ws, w ≠ "") ∧
  ∀ X : Nat, (∀ k, k ≤ P.length → (X.testBit k = true ↔ plcB ws P k ws.length)) → Q (.int (X : Int)) H
def spReads (K : PySem.W.Frag) (C : Addr) : Sp := fun vs H Q _ => ∃ (a dx : Addr) (P : List It) (p d : Addr) (G B lg fi la : Nat) (kvs : List (Key × V)) (l : Addr) (ws : List Str), vs = [.ref a, .ref l] ∧ RdAt H C a dx P p d G B lg fi la kvs ∧ fi < 2 ^ (P.length + 1) ∧ SqL K H l (ws.map V.str) ∧ (∀ w ∈ ws, w ≠ "") ∧
  ∀ b : Bool, (b = true ↔ mts ws P ws.length) → Q (.bl b) H
section
variable {P : Program} {w : World} {K : PySem.W.Frag} {mg : Str → Option Value} {base : Heap} {C : Addr}
theorem str_atU {l : List Str} {i : Nat} {y : V} (h : (l.map V.str)[i]? = some y) : ∃ z, l[i]? = some z ∧ y = .str z := by
  rw [List.getElem?_map] at h
  cases q : l[i]? with
  | none => rw [q] at h; cases h
  | some z => rw [q] at h; exact ⟨z, rfl, (Option.some.inj h).symm⟩
theorem scReadAll : FnScope ["self", "places", "words", "word"] ["self", "places", "words"] (defScope (inClass cReader 5)) := ⟨rfl, rfl, rfl, by decide +kernel, rfl, by decide +kernel, by decide +kernel⟩
theorem ok_readAll {f fR fT : Addr} {fd dR dT : FuncData} (F : Fun K "read_all" "Reader.read_all" (inClass cReader 5) f fd) (RC : RdC K C) (mR : Meth K C "read" fR) (PR : FnOk P w K mg base CX0 2 fR dR ["self", "places", "takers"] (spRead C)) (bR : Binds K dR ["self", "places", "takers"] [])
    (mT : Meth K C "takers_of" fT) (PT : FnOk P w K mg base CX0 1 fT dT ["self", "word"] (spTakers C)) (bT : Binds K dT ["self", "word"] []) : FnOk P w K mg base CX0 3 f fd ["self", "places", "words"] (spReadAll K C) := by
  refine F.ok scReadAll (fun vs H Q E h => ?_) (fun cdv A outer s H vs Q E hr h => ?_)
  · obtain ⟨a, dx, P, p, d, G, B, lg, fi, la, kvs, l, ws, rfl, _⟩ := h
    rfl
  · obtain ⟨a, dx, P, p, d, G, B, lg, fi, la, kvs, l, ws, rfl, R, fl, hl, hw, k⟩ := h
    have hr2 : Room 2 _ := hr
    have hr1 : Room 1 _ := hr2.mono (by decide)
    refine ⟨_, pss_cons (ps_for PassesOwn.never rfl (pi_list (pv 2)) (pg_name (i := 3) scReadAll.nd rfl (.inl rfl))
          (pss_one (ps_set (i := 1) scReadAll.nd rfl (.inl rfl) (pe_meth (pv 0) RC.cls mR PR hr2 bR .nil pass0 (pa_cons (pv 1) (pa_cons (pe_meth (pv 0) RC.cls mT PT hr1 bT .nil pass0 (pa_cons (pv 3) pa_nil)) pa_nil))))))
        (pss_one (ps_ret (pv 1))), ?_⟩
    refine ⟨_, rfl, l, rfl, ⟨_, hl⟩, for_list (K := K) (a := l) (xs := ws.map V.str) (fun j σ G' => G' = H ∧ ∃ (x3 : Option V) (X : Nat), σ = [some (.ref a), some (.int (X : Int)), some (.ref l), x3] ∧ X < 2 ^ (P.length + 1) ∧ ∀ k, k ≤ P.length → (X.testBit k = true ↔ plcB ws P k j)) ?_ (fun j σ G' _ ⟨e, _⟩ => e ▸ hl) ?_ ?_⟩
    · exact ⟨rfl, none, fi, rfl, fl, fun k hk => by rw [R.fst, plcB_zero R.gg hk]⟩
    · rintro j y σ G' hj ⟨rfl, x3, X, rfl, Xl, hX⟩
      obtain ⟨z, hz, rfl⟩ := str_atU hj
      have zn := hw z (List.mem_of_getElem? hz)
      have le : 2 ^ (P.length + 1) ≤ 2 ^ 41 := Nat.pow_le_pow_right (by decide) (by have := R.l40; omega)
      refine ⟨_, rfl, a, dx, _, rfl, R.at_, rfl, _, rfl, _, rfl, a, dx, _, rfl, R.at_, rfl, _, rfl, a, dx, p, d, P.length, G, B, lg, fi, la, z, kvs, _, rfl, R.at_, R.dict, R.tk z zn, ?_⟩
      refine ⟨a, dx, p, d, P.length, G, B, lg, fi, la, X, _, rfl, R.at_, by omega, ?_⟩
      rw [R.hG, R.hB]
      exact ⟨rfl, _, _, rfl, rdN_lt R.l40, fun k hk => rdN_step R.gg hz zn hX hk⟩
    · rintro σ G' ⟨rfl, x3, X, rfl, Xl, hX⟩
      rw [List.length_map] at hX
      exact ⟨_, rfl, k X hX⟩
theorem scReads : FnScope ["self", "words"] ["self", "words"] (defScope (inClass cReader 6)) := ⟨rfl, rfl, rfl, by decide +kernel, rfl, by decide +kernel, by decide +kernel⟩
theorem ok_reads {f fA : Addr} {fd dA : FuncData} (F : Fun K "reads" "Reader.reads" (inClass cReader 6) f fd) (RC : RdC K C) (mA : Meth K C "read_all" fA) (PA : FnOk P w K mg base CX0 3 fA dA ["self", "places", "words"] (spReadAll K C)) (bA : Binds K dA ["self", "places", "words"] []) : FnOk P w K mg base CX0 4 f fd ["self", "words"] (spReads K C) := by
  refine F.ok scReads (fun vs H Q E h => ?_) (fun cdv A outer s H vs Q E hr h => ?_)
  · obtain ⟨a, dx, P, p, d, G, B, lg, fi, la, kvs, l, ws, rfl, _⟩ := h
    rfl
  · obtain ⟨a, dx, P, p, d, G, B, lg, fi, la, kvs, l, ws, rfl, R, fl, hl, hw, k⟩ := h
    have hr3 : Room 3 _ := hr
    refine ⟨_, pss_one (ps_ret (pe_cmpR op_gt (pe_op op_and (pe_meth (pv 0) RC.cls mA PA hr3 bA .nil pass0 (pa_cons (pe_fld (pv 0) rfl) (pa_cons (pv 1) pa_nil))) (pe_fld (pv 0) rfl)) pe_int (nomark _))), ?_⟩
    refine ⟨_, rfl, a, dx, _, rfl, R.at_, rfl, _, rfl, a, C, dx, _, _, rfl, R.at_, RC.cls, RC.nf, rfl, _, rfl, a, dx, P, p, d, G, B, lg, fi, la, kvs, l, ws, rfl, R, fl, hl, hw, fun X hX => ?_⟩
    refine ⟨_, rfl, a, C, dx, _, _, rfl, R.at_, RC.cls, RC.ne, rfl, _, _, rfl, rfl, _, _, rfl, rfl, k _ ?_⟩
    rw [PySem.W.os_band, decide_eq_true_iff]
    have e := hX P.length (Nat.le_refl _)
    rw [plcB_end] at e
    rw [← e, ← and_bit]
    show (0 : Int) < ((X &&& 2 ^ P.length : Nat) : Int) ↔ _
    omega
end
end LB
set_option Elab.async false
set_option linter.all false
set_option maxRecDepth 100000
set_option maxHeartbeats 4000000
/-! Patterns, the program's own: a reader made. -/
namespace LB
open PySem L2 Wk
def spRInit (K : PySem.W.Frag) (C : Addr) : Sp := fun vs H Q _ => ∃ (a dx l : Addr) (pat : List It), vs = [.ref a, .ref l] ∧ H a = some (.ins C dx []) ∧ SqL K H l (pat.map vI) ∧ pat.length ≤ 40 ∧ (∀ x ∈ pat, okI x = true) ∧
  ∀ (p d : Addr) (G B lg fi la : Nat) (kvs : List (Key × V)) (H' : Hp), RdAt H' C a dx (tid pat) p d G B lg fi la kvs → fi < 2 ^ ((tid pat).length + 1) → (∀ q u, H q = some u → q ≠ a → H' q = some u) → Q .non H'
theorem pow_nat (k : Nat) : (2 : Int) ^ k = ((2 ^ k : Nat) : Int) := by
  rw [Int.natCast_pow]
  rfl
theorem or_mk (B : Nat) (p : List It) (x : It) (i : Nat) (h : p[i]? = some x) : (B ||| mk p x i) ||| 2 ^ i = B ||| mk p x (i + 1) := by
  refine Nat.eq_of_testBit_eq fun k => ?_
  have e : ∀ a b : Bool, (a = true ↔ b = true) → a = b := fun a b h => by
    cases a <;> cases b <;> simp at h <;> rfl
  apply e
  rw [bitO, bitO, bitO, mk_bit, mk_bit, Nat.testBit_two_pow, decide_eq_true_iff]
  constructor
  · rintro ((a | ⟨b, c⟩) | d)
    · exact .inl a
    · exact .inr ⟨by omega, c⟩
    · exact .inr ⟨by omega, d ▸ h⟩
  · rintro (a | ⟨b, c⟩)
    · exact .inl (.inl a)
    · rcases Nat.lt_or_ge k i with z | z
      · exact .inl (.inr ⟨z, c⟩)
      · exact .inr (by omega)
theorem mk_skip {p : List It} {x : It} {i : Nat} (h : ¬ p[i]? = some x) : mk p x (i + 1) = mk p x i := by
  rw [mk_succ, if_neg h]
theorem first_bit (G k : Nat) : (acr 1 G).testBit k = true ↔ k = 0 ∨ (k = 1 ∧ G.testBit 0 = true) := by
  unfold acr
  have one : ∀ k, (1 : Nat).testBit k = true ↔ k = 0 := fun k => by
    rw [show (1 : Nat) = 2 ^ 0 from rfl, Nat.testBit_two_pow, decide_eq_true_iff]
    exact eq_comm
  rw [bitO, bit2, one]
  refine or_congr Iff.rfl ?_
  constructor
  · rintro ⟨i, e, h⟩
    rw [bitA, one] at h
    exact ⟨by omega, h.1 ▸ h.2⟩
  · rintro ⟨e, h⟩
    exact ⟨0, e, by rw [bitA, one]; exact ⟨rfl, h⟩⟩
section
variable {P : Program} {w : World} {K : PySem.W.Frag} {mg : Str → Option Value} {base : Heap} {C : Addr}
theorem scRInit : FnScope ["self", "pattern", "at", "part"] ["self", "pattern"] (defScope (inClass cReader 0)) := ⟨rfl, rfl, rfl, by decide +kernel, rfl, by decide +kernel, by decide +kernel⟩
theorem ok_rInit {f fT fO fA : Addr} {fd dT dO dA : FuncData} (F : Fun K "__init__" "Reader.__init__" (inClass cReader 0) f fd) (RC : RdC K C) (TD : Def1 P w K mg base "_tidied" 1 fT dT ["pattern"] (spTidied K)) (PO : Def1 P w K mg base "_places_of" 1 fO dO ["item", "parts"] spPlaces)
    (mA : Meth K C "_across" fA) (PA : FnOk P w K mg base CX0 1 fA dA ["self", "places"] (spAcross C)) (bA : Binds K dA ["self", "places"] []) (mL : mg "len" = none) (mE : mg "enumerate" = none) : FnOk P w K mg base CX0 2 f fd ["self", "pattern"] (spRInit K C) := by
  refine F.ok scRInit (fun vs H Q E h => ?_) (fun cdv A outer s H vs Q E hr h => ?_)
  · obtain ⟨a, dx, l, pat, rfl, _⟩ := h
    rfl
  · obtain ⟨a, dx, l, pat, rfl, ha, hl, l40, okp, k⟩ := h
    have hr1 : Room 1 _ := hr
    have hu := hu_of hr
    have big : 3000 ≤ sizeLine := by decide
    refine ⟨_, pss_cons (ps_fld (pv 0) (pe_call TD.ok hr1 (by rfl) TD.g TD.k TD.b .nil pass0 (pa_cons (pv 1) pa_nil)) rfl)
        (pss_cons (ps_fld (pv 0) (pe_op op_oneShl pe_int (pe_callB call_len_seq (by rfl) mL PySem.boot_len (pa_cons (pe_fld (pv 0) rfl) pa_nil))) rfl)
        (pss_cons (ps_fld (pv 0) (pe_call PO.ok hr1 (by rfl) PO.g PO.k PO.b .nil pass0 (pa_cons pe_str (pa_cons (pe_fld (pv 0) rfl) pa_nil))) rfl)
        (pss_cons (ps_fld (pv 0) (pe_call PO.ok hr1 (by rfl) PO.g PO.k PO.b .nil pass0 (pa_cons pe_non (pa_cons (pe_fld (pv 0) rfl) pa_nil))) rfl)
        (pss_cons (ps_fld (pv 0) (pe_op op_shr (pe_op op_oneShl pe_int (pe_bits (pe_fld (pv 0) rfl))) pe_int) rfl)
        (pss_cons (ps_fld (pv 0) (pe_dnewK) rfl)
        (pss_mid (ps_for PassesOwn.never rfl (pi_enum rfl mE (pa_cons (pe_fld (pv 0) rfl) pa_nil)) (pg_tup (by rfl) (pgs_cons (pg_name (i := 2) scRInit.nd rfl (.inl rfl)) (pgs_cons (pg_name (i := 3) scRInit.nd rfl (.inl rfl)) pgs_nil))) (pss_one (ps_if (PW.pt (pw_and (pt_cmpR op_notN (pv 3) pe_non (nomark _)) (pw_and1 (pt_cmpR op_ne (pv 3) pe_str (nomark _))))) (pss_one (ps_dput hu (pe_fld (pv 0) rfl) (pv 3) (pe_op op_or (pe_dget2 hu (pe_fld (pv 0) rfl) (pv 3) (pe_fld (pv 0) rfl) ⟨rfl, rfl, rfl, rfl⟩) (pe_op op_oneShl pe_int (pv 2))) rfl)) pss_nil)))
        (pss_cons (ps_fld (pv 0) (pe_meth (pv 0) RC.cls mA PA hr1 bA .nil pass0 (pa_cons pe_int pa_nil)) rfl)
        (pss_one (ps_fld (pv 0) (pe_op op_or (pe_fld (pv 0) rfl) (pe_op op_and (pe_fld (pv 0) rfl) (pe_op op_shr (pe_fld (pv 0) rfl) pe_int))) rfl))))))))), ?_⟩
    refine ⟨_, rfl, l, pat, rfl, hl, l40, okp, fun p H1 np s1 hp => ?_⟩
    obtain ⟨T, hT⟩ : ∃ T, T = tid pat := ⟨_, rfl⟩
    rw [← hT] at hp
    have n40 : T.length ≤ 40 := by
      have := tid_len pat
      rw [hT]
      omega
    have h1 := s1 _ _ ha
    have pa : p ≠ a := fun z => by
      rw [z, ha] at np
      cases np
    refine ⟨_, rfl, a, C, dx, [], rfl, h1, RC.cls, RC.np, by decide, ?_⟩
    refine ⟨_, rfl, a, C, dx, _, _, rfl, upd_same, RC.cls, RC.np, rfl, p, _, rfl, .inl (SqL.of ((upd_ne pa).trans hp)), (T.map vI).length, rfl, rfl, by rw [List.length_map]; omega, ?_⟩
    rw [List.length_map, pow_nat]
    refine ⟨_, rfl, a, C, dx, _, rfl, upd_same, RC.cls, RC.ne, by show 1 < 1000; decide, ?_⟩
    -- gaps
    refine ⟨_, rfl, a, C, dx, _, _, rfl, upd_same, RC.cls, RC.np, rfl, p, T, gp, rfl, (upd_ne pa).trans ((upd_ne pa).trans hp), n40, fun H3 s3 => ?_⟩
    have h3 := s3 _ _ upd_same
    have hp3 := s3 _ _ ((upd_ne pa).trans ((upd_ne pa).trans hp))
    have k3 : ∀ q u, H1 q = some u → q ≠ a → H3 q = some u := fun q u e n => s3 _ _ ((upd_ne n).trans ((upd_ne n).trans e))
    refine ⟨_, rfl, a, C, dx, _, rfl, h3, RC.cls, RC.ng, by show 2 < 1000; decide, ?_⟩
    -- blanks
    refine ⟨_, rfl, a, C, dx, _, _, rfl, upd_same, RC.cls, RC.np, rfl, p, T, none, rfl, (upd_ne pa).trans hp3, n40, fun H4 s4 => ?_⟩
    have h4 := s4 _ _ upd_same
    have hp4 := s4 _ _ ((upd_ne pa).trans hp3)
    have k4 : ∀ q u, H1 q = some u → q ≠ a → H4 q = some u := fun q u e n => s4 _ _ ((upd_ne n).trans (k3 q u e n))
    refine ⟨_, rfl, a, C, dx, _, rfl, h4, RC.cls, RC.nb, by show 3 < 1000; decide, ?_⟩
    obtain ⟨G, hG⟩ : ∃ G, G = mk T gp T.length := ⟨_, rfl⟩
    obtain ⟨B, hB⟩ : ∃ B, B = mk T none T.length := ⟨_, rfl⟩
    rw [← hG, ← hB]
    have pw41 : 2 ^ T.length ≤ 2 ^ 40 := Nat.pow_le_pow_right (by decide) n40
    have gl : G < 2 ^ T.length := by rw [hG]; exact mk_lt _ _ _
    -- last_gap
    have gb : Builtin.Int.intBits (G : Int) ≤ 64 := intBits_le_64 (by omega) (by omega)
    refine ⟨_, rfl, a, C, dx, _, _, rfl, upd_same, RC.cls, RC.ng, rfl, _, rfl, _, rfl, rfl, by omega, _, _, rfl, rfl, (by show (0 : Int) ≤ 1; decide), ?_⟩
    obtain ⟨lg, hlg⟩ : ∃ lg : Nat, (2 : Int) ^ Builtin.Int.intBits (G : Int) / 2 ^ (1 : Int).toNat = (lg : Int) := ⟨2 ^ Builtin.Int.intBits (G : Int) / 2, by rw [pow_nat, Int.natCast_ediv]; rfl⟩
    refine ⟨_, rfl, a, C, dx, _, rfl, upd_same, RC.cls, RC.nl, by show 4 < 1000; decide, ?_⟩
    dsimp only
    rw [hlg]
    obtain ⟨V5, hV5⟩ : ∃ V5 : List (Str × V), V5 = putF "last_gap" (.int (lg : Int)) (putF "blanks" (.int (B : Int)) (putF "gaps" (.int (G : Int)) (putF "end" (.int ((2 ^ T.length : Nat) : Int)) (putF "parts" (.ref p) [])))) := ⟨_, rfl⟩
    rw [← hV5]
    generalize hX : upd (upd H4 a _) a (.ins C dx V5) = H5
    have h5 : H5 a = some (.ins C dx V5) := by rw [← hX, upd_same]
    have hp5 : H5 p = some (.lst (T.map vI)) := by
      rw [← hX, upd_ne pa, upd_ne pa]
      exact hp4
    have k5 : ∀ q u, H1 q = some u → q ≠ a → H5 q = some u := fun q u e n => by
      rw [← hX, upd_ne n, upd_ne n]
      exact k4 q u e n
    clear hX
    -- takers
    refine fun d nd => ?_
    have da : d ≠ a := fun z => by
      rw [z, h5] at nd
      cases nd
    have pd : p ≠ d := ne_of_none hp5 nd
    refine ⟨_, rfl, a, C, dx, V5, rfl, upd_keep h5 nd, RC.cls, RC.nt, by rw [hV5]; show 5 < 1000; decide, ?_⟩
    obtain ⟨V6, hV6⟩ : ∃ V6 : List (Str × V), V6 = putF "takers" (.ref d) V5 := ⟨_, rfl⟩
    rw [← hV6]
    have lk : ∀ (f : Str) (v : V), V6.lookup f = some v → V6.lookup f = some v := fun _ _ h => h
    have g1 : V6.lookup ("parts" : Str) = some (.ref p) := by rw [hV6, hV5]; rfl
    have g2 : V6.lookup ("takers" : Str) = some (.ref d) := by rw [hV6, hV5]; rfl
    have g3 : V6.lookup ("blanks" : Str) = some (.int (B : Int)) := by rw [hV6, hV5]; rfl
    have g4 : V6.lookup ("gaps" : Str) = some (.int (G : Int)) := by rw [hV6, hV5]; rfl
    have g5 : V6.lookup ("_across" : Str) = none := by rw [hV6, hV5]; rfl
    have g6 : V6.length = 6 := by rw [hV6, hV5]; rfl
    generalize hX : upd (upd H5 d (.dK [])) a (.ins C dx V6) = H6
    have h6 : H6 a = some (.ins C dx V6) := by rw [← hX, upd_same]
    have hd6 : H6 d = some (.dK []) := by rw [← hX, upd_ne da, upd_same]
    have hp6 : H6 p = some (.lst (T.map vI)) := by rw [← hX, upd_ne pa, upd_ne pd]; exact hp5
    have k6 : ∀ q u, H1 q = some u → q ≠ a → H6 q = some u := fun q u e n => by
      rw [← hX, upd_ne n]
      exact upd_keep (k5 q u e n) nd
    have dH : H d = none := by
      cases c : H d with
      | none => rfl
      | some u =>
        have := k5 d u (s1 _ _ c) da
        rw [nd] at this
        cases this
    clear hX
    refine ⟨fun τ G' => ∃ (x2 x3 : Option V) (kvs : List (Key × V)), τ = [some (.ref a), some (.ref l), x2, x3] ∧ G' d = some (.dK kvs) ∧ (∀ w : Str, w ≠ "" → tkr kvs B w (B ||| mk T (some w) T.length)) ∧ (∀ q u, H6 q = some u → q ≠ d → G' q = some u), ?_, ?_⟩
    · refine ⟨_, rfl, a, C, dx, _, _, rfl, h6, RC.cls, RC.np, g1, p, _, rfl, SqL.of hp6, ?_⟩
      refine for_it (walk_enum (K := K) (a := p) (xs := T.map vI)) (fun i σ G' => ∃ (x2 x3 : Option V) (kvs : List (Key × V)), σ = [some (.ref a), some (.ref l), x2, x3] ∧ G' d = some (.dK kvs) ∧ kvs.length ≤ i ∧ (∀ w : Str, w ≠ "" → tkr kvs B w (B ||| mk T (some w) i)) ∧ (∀ q u, H6 q = some u → q ≠ d → G' q = some u))
        ⟨none, none, [], rfl, hd6, Nat.le_refl _, fun w _ => .inr ⟨rfl, by show B ||| 0 = B; exact Nat.or_zero B⟩, fun q u e _ => e⟩ (fun i σ G' _ ⟨_, _, _, _, _, _, _, kk⟩ => SqL.of (kk _ _ hp6 pd)) ?_ ?_
      · rintro i y σ J J' hi ⟨x2, x3, kvs, rfl, hd, kl, hk, kk⟩ ⟨U, y1, y2, rfl, nU, rfl, hy1, hy2⟩
        cases hy1
        obtain ⟨z, hz, rfl⟩ := it_at hy2
        have il := (List.getElem?_eq_some_iff.mp hz).1
        have dU := ne_of_none hd nU
        have hdU := upd_keep (x := .tup [.int i, vI z]) hd nU
        have kU : ∀ q u, H6 q = some u → q ≠ d → upd J U (.tup [.int i, vI z]) q = some u := fun q u e n => upd_keep (kk q u e n) nU
        have hU6 := kU _ _ h6 da.symm
        refine ⟨U, _, rfl, SqT.of upd_same, rfl, _, _, rfl, _, _, rfl, rfl, ?_⟩
        have skip : (∀ w : Str, w ≠ "" → z ≠ some w) → ∃ (x2 x3 : Option V) (kvs' : List (Key × V)), [some (V.ref a), some (V.ref l), some (V.int i), some (vI z)] = [some (.ref a), some (.ref l), x2, x3] ∧ upd J U (.tup [.int i, vI z]) d = some (.dK kvs') ∧ kvs'.length ≤ i + 1 ∧ (∀ w : Str, w ≠ "" → tkr kvs' B w (B ||| mk T (some w) (i + 1))) ∧ (∀ q u, H6 q = some u → q ≠ d → upd J U (.tup [.int i, vI z]) q = some u) := fun hz2 =>
          ⟨_, _, kvs, rfl, hdU, by omega, fun w hw => by rw [mk_skip (fun e => hz2 w hw (Option.some.inj (hz.symm.trans e)))]; exact hk w hw, kU⟩
        cases z with
        | none =>
          refine ⟨_, rfl, rfl, _, rfl, ite2 (fun c => absurd c (by decide)) (fun _ => ?_)⟩
          refine ite2 (fun c => by cases c) (fun _ => ?_)
          exact skip fun w _ e => by cases e
        | some s =>
          refine ⟨_, rfl, rfl, _, rfl, ite2 (fun _ => ?_) (fun c => absurd (show (!decide (V.str s = V.non)) = true from rfl) c)⟩
          by_cases hs : s = ""
          · subst hs
            refine ⟨_, rfl, rfl, _, rfl, ite2 (fun c => absurd c (by decide)) (fun _ => ?_)⟩
            exact skip fun w hw e => hw (Option.some.inj e).symm
          · refine ⟨_, rfl, rfl, _, rfl, ite2 (fun _ => ?_) (fun c => absurd (show (!decide (V.str s = V.str "")) = true by rw [decide_eq_false (fun w => hs (V.str.inj w))]; rfl) c)⟩
            have e : (valV kvs (Sum.inr s)).getD (.int (B : Int)) = .int ((B ||| mk T (some s) i : Nat) : Int) := by
              rcases hk s hs with h | ⟨h, e⟩
              · rw [h]
                rfl
              · rw [h, e]
                rfl
            refine ⟨_, rfl, a, C, dx, _, _, rfl, hU6, RC.cls, RC.nt, g2, d, rfl, .inl ⟨kvs, .inl hdU⟩, _, rfl, _, rfl, a, C, dx, _, _, rfl, hU6, RC.cls, RC.nb, g3, valV kvs (Sum.inr s), DGet.k (k := Sum.inr s) hdU, _, rfl, i, rfl, rfl, by omega, _, _, e, rfl, ?_⟩
            refine ⟨_, rfl, a, C, dx, _, _, rfl, hU6, RC.cls, RC.nt, g2, _, rfl, d, _, rfl, DPut.k (k := Sum.inr s) hdU (by omega), ?_⟩
            refine ⟨_, _, _, rfl, upd_same, ?_, fun w hw => ?_, fun q u e n => ?_⟩
            · exact Nat.le_trans (length_putK _ _ _) (Nat.add_le_add_right kl 1)
            · by_cases ws : w = s
              · subst ws
                refine .inl ?_
                rw [valV_put, if_pos rfl]
                show some (V.int (Builtin.bitOr ((B ||| mk T (some w) i : Nat) : Int) ((2 : Int) ^ i))) = _
                rw [pow_nat, bor_nat, or_mk B T (some w) i hz]
              · rw [mk_skip (fun e => ws (Option.some.inj (Option.some.inj (hz.symm.trans e))).symm)]
                unfold tkr
                rw [valV_put, if_neg (fun e => ws (Sum.inr.inj e))]
                exact hk w hw
            · rw [upd_ne n]
              exact kU q u e n
      · rintro σ J ⟨x2, x3, kvs, rfl, hd, kl, hk, kk⟩
        rw [List.length_map] at hk
        exact ⟨x2, x3, kvs, rfl, hd, hk, kk⟩
    rintro τ H7 ⟨x2, x3, kvs, rfl, hd, hk, kk⟩
    have h7 := kk _ _ h6 da.symm
    -- first
    refine ⟨_, rfl, a, dx, V6, rfl, h7, g5, a, dx, V6, 1, G, rfl, h7, g4, by decide, ?_⟩
    refine ⟨_, rfl, a, C, dx, V6, rfl, h7, RC.cls, RC.nf, by rw [g6]; decide, ?_⟩
    obtain ⟨V7, hV7⟩ : ∃ V7 : List (Str × V), V7 = putF "first" (.int ((acr 1 G : Nat) : Int)) V6 := ⟨_, rfl⟩
    rw [← hV7]
    have j1 : V7.lookup ("end" : Str) = some (.int ((2 ^ T.length : Nat) : Int)) := by rw [hV7, hV6, hV5]; rfl
    have j2 : V7.lookup ("gaps" : Str) = some (.int (G : Int)) := by rw [hV7, hV6, hV5]; rfl
    have j3 : V7.length = 7 := by rw [hV7, hV6, hV5]; rfl
    refine ⟨_, rfl, a, C, dx, V7, _, rfl, upd_same, RC.cls, RC.ne, j1, _, rfl, a, C, dx, V7, _, rfl, upd_same, RC.cls, RC.ng, j2, _, rfl, a, C, dx, V7, _, rfl, upd_same, RC.cls, RC.ne, j1, _, _, rfl, rfl, (by show (0 : Int) ≤ 1; decide), _, _, rfl, rfl, _, _, rfl, rfl, ?_⟩
    refine ⟨_, rfl, a, C, dx, V7, rfl, upd_same, RC.cls, RC.na, by rw [j3]; decide, ?_⟩
    obtain ⟨la, hla⟩ : ∃ la : Nat, Builtin.bitOr ((2 ^ T.length : Nat) : Int) (Builtin.bitAnd (G : Int) (((2 ^ T.length : Nat) : Int) / 2 ^ (1 : Int).toNat)) = (la : Int) :=
      ⟨2 ^ T.length ||| (G &&& 2 ^ T.length / 2), by
        rw [show (((2 ^ T.length : Nat) : Int) / 2 ^ (1 : Int).toNat) = ((2 ^ T.length / 2 : Nat) : Int) by rw [Int.natCast_ediv]; rfl, PySem.W.os_band, bor_nat]⟩
    dsimp only
    rw [hla]
    refine k p d G B lg (acr 1 G) la kvs _ ⟨?_, ?_, tid_gg pat, hT ▸ n40, hT ▸ hG, hT ▸ hB, hT ▸ hk, fun j => ?_⟩ ?_ fun q u e n => ?_
    · rw [upd_same, hV7, hV6, hV5, ← hT]
      rfl
    · rw [upd_ne da, upd_ne da]
      exact hd
    · rw [first_bit, hG, mk_bit, ← hT]
      exact or_congr Iff.rfl (and_congr Iff.rfl ⟨fun h => h.2, fun h => ⟨(List.getElem?_eq_some_iff.mp h).1, h⟩⟩)
    · rw [← hT]
      have a1 : 1 &&& G ≤ 1 := Nat.and_le_left
      cases c : T.length with
      | zero =>
        rw [c] at gl
        have : G = 0 := by
          have : G < 1 := gl
          omega
        rw [this]
        decide
      | succ m =>
        have z : acr 1 G < 2 ^ 2 := Nat.or_lt_two_pow (by decide) (by omega)
        exact Nat.lt_of_lt_of_le z (Nat.pow_le_pow_right (by decide) (by omega))
    · rw [upd_ne n, upd_ne n]
      refine kk q u (k6 q u (s1 _ _ e) n) fun z => ?_
      rw [z, dH] at e
      cases e

end
end LB
set_option Elab.async false
set_option linter.all false
set_option maxRecDepth 100000
set_option maxHeartbeats 4000000
/-! The program's own: a word more behind a beginning, all words that may come. -/
namespace LB
open PySem L2 Wk
open Bg (Bg Wo)
/-- the vocabulary in its order, as the program holds it -/
def VocAt (H : Hp) (l : Addr) (vs : List (Addr × Str × Wo)) : Prop := H l = some (.lst (vs.map fun z => V.ref z.1)) ∧ ∀ z ∈ vs, H z.1 = some (.tup [.str z.2.1, .int z.2.2.val])
theorem VocAt.same {H H' : Hp} {l : Addr} {vs : List (Addr × Str × Wo)} (h : VocAt H l vs) (s : Same H H') : VocAt H' l vs := ⟨s _ _ h.1, fun z hz => s _ _ (h.2 z hz)⟩
def ascW (l : List (Str × Wo)) : Prop := l.Pairwise fun e f => WkI.ltS e.1 f.1 = true
def spVocab : Sp := fun vs H Q _ => ∃ (t o te sc : Addr) (ones tens : List Str) (hun : Str) (scales : List Str), vs = [.ref t] ∧ TabAt H t ones tens hun scales o te sc ∧ ones.length ≤ 100 ∧ tens.length ≤ 100 ∧ scales.length ≤ 500 ∧
  (ones ++ (tens ++ hun :: scales)).Nodup ∧ ∀ l vz H', H l = none → Same H H' → VocAt H' l vz → (∀ z ∈ vz, H z.1 = none) → (vz.map (·.2)).Perm (voc ones tens hun scales) → ascW (vz.map (·.2)) → Q (.ref l) H'
def spStart (K : PySem.W.Frag) : Sp := fun vs H Q _ => ∃ (t o te sc : Addr) (ones tens : List Str) (hun : Str) (scales : List Str), vs = [.ref t] ∧ TabAt H t ones tens hun scales o te sc ∧ scales.length ≤ 900 ∧
  ∀ p H', H p = none → Same H H' → SqT K H' p (BgV (Bg.start scales.length)) → Q (.ref p) H'
def spFol (K : PySem.W.Frag) : Sp := fun vs H Q _ => ∃ (p : Addr) (b : Bg) (x : Wo), vs = [.ref p, .int x.val] ∧ SqT K H p (BgV b) ∧ Bg.Ok b ∧ Bg.WOk x ∧
  (Bg.fol b x = none → Q .non H) ∧ ∀ c, Bg.fol b x = some c → ∀ q H', Same H H' → SqT K H' q (BgV c) → Q (.ref q) H'
def stepsOf (b : Bg) (ws : List (Str × Wo)) : List (Str × Bg) := ws.filterMap fun e => (Bg.fol b e.2).map fun c => (e.1, c)
def StAt (K : PySem.W.Frag) (H : Hp) (l : Addr) (cs : List (Addr × Str × Addr × Bg)) : Prop := H l = some (.lst (cs.map fun c => V.ref c.1)) ∧ ∀ c ∈ cs, H c.1 = some (.tup [.str c.2.1, .ref c.2.2.1]) ∧ SqT K H c.2.2.1 (BgV c.2.2.2)
theorem StAt.same {K : PySem.W.Frag} {H H' : Hp} {l : Addr} {cs : List (Addr × Str × Addr × Bg)} (h : StAt K H l cs) (s : Same H H') : StAt K H' l cs := ⟨s _ _ h.1, fun c hc => ⟨s _ _ (h.2 c hc).1, s.tp (h.2 c hc).2⟩⟩
def pairS (c : Addr × Str × Addr × Bg) : Str × Bg := (c.2.1, c.2.2.2)
def spSteps (K : PySem.W.Frag) : Sp := fun vs H Q _ => ∃ (p : Addr) (b : Bg) (l : Addr) (vz : List (Addr × Str × Wo)), vs = [.ref p, .ref l] ∧ SqT K H p (BgV b) ∧ Bg.Ok b ∧ VocAt H l vz ∧ vz.length ≤ 1000 ∧ (∀ z ∈ vz, Bg.WOk z.2.2) ∧
  ∀ q cs H', H q = none → Same H H' → StAt K H' q cs → cs.map pairS = stepsOf b (vz.map (·.2)) → Q (.ref q) H'
theorem limit_W (scales : List Str) : limitOf scales = Bg.W (scales.length + 1) := by
  rw [Bg.W_succ]
  rfl
/-- a tuple of beginnings under a list that grows -/
theorem _root_.L2.SqT.grow {K : PySem.W.Frag} {H : Hp} {a l : Addr} {xs ys zs : List V} (h : SqT K H a xs) (hl : H l = some (.lst ys)) : SqT K (upd H l (.lst zs)) a xs := by
  have ne : ∀ o, H a = some o → (∀ w, o ≠ .lst w) → a ≠ l := fun o e n z => by
    rw [z, hl] at e
    cases e
    exact n ys rfl
  rcases h with (h | ⟨o, h⟩) | h
  · exact .inl (.inl (by rw [upd_ne (ne _ h fun w z => by cases z)]; exact h))
  · exact .inl (.inr ⟨o, by rw [upd_ne (ne _ h fun w z => by cases z)]; exact h⟩)
  · exact .inr h
section
variable {P : Program} {w : World} {K : PySem.W.Frag} {mg : Str → Option Value} {base : Heap}
theorem int_dec {a b : Int} : decide (V.int a = V.int b) = decide (a = b) := decide_eq_decide.mpr ⟨fun z => V.int.inj z, fun z => by rw [z]⟩
theorem stepsOf_snoc (b : Bg) (l : List (Str × Wo)) (x : Str × Wo) : stepsOf b (l ++ [x]) = stepsOf b l ++ (match Bg.fol b x.2 with | none => [] | some c => [(x.1, c)]) := by
  unfold stepsOf
  rw [List.filterMap_append]
  congr 1
  cases h : Bg.fol b x.2 with
  | none => simp [h]
  | some c => simp [h]
end
end LB
set_option Elab.async false
set_option linter.all false
set_option maxRecDepth 100000
set_option maxHeartbeats 4000000
/-! The words of a number, as a list of worths. -/
namespace Bg
/-- the group of three digits at place i -/
def gr (n : Int) (i : Nat) : Int := n / W i % 1000
theorem gr_bnd (n : Int) (i : Nat) : 0 ≤ gr n i ∧ gr n i ≤ 999 := by
  unfold gr
  have := Int.emod_nonneg (n / W i) (show (1000 : Int) ≠ 0 by decide)
  have := Int.emod_lt_of_pos (n / W i) (show (0 : Int) < 1000 by decide)
  omega
theorem div_succ (n : Int) (i : Nat) : n / W i / 1000 = n / W (i + 1) := by
  rw [W_succ, Int.mul_comm, Int.ediv_ediv_of_nonneg (Int.le_of_lt (W_pos i))]
def groupW (g : Int) : List Wo := (if g / 100 > 0 then [.low (g / 100), .hun] else []) ++ (if g % 100 ≥ 20 then .low (10 * (g % 100 / 10)) :: (if g % 100 % 10 > 0 then [.low (g % 100 % 10)] else []) else if g % 100 > 0 then [.low (g % 100)] else [])
/-- the words of the group at place i -/
def partW (n : Int) (i : Nat) : List Wo := if gr n i > 0 then groupW (gr n i) ++ (if i > 0 then [.sc (i - 1)] else []) else []
/-- the words of the k lowest groups, the highest first -/
def spW (n : Int) : Nat → List Wo
  | 0 => []
  | k + 1 => partW n k ++ spW n k
def nameW (n : Int) (k : Nat) : List Wo := if n = 0 then [.low 0] else spW n k
theorem div_zero {n : Int} {i j : Nat} (h0 : 0 ≤ n) (h : n < W i) (hj : i ≤ j) : n / W j = 0 := Int.ediv_eq_zero_of_lt h0 (Int.lt_of_lt_of_le h (W_le hj))
theorem spW_top {n : Int} {i : Nat} (h0 : 0 ≤ n) (h : n < W i) : ∀ k, spW n (i + k) = spW n i
  | 0 => rfl
  | k + 1 => by
    show partW n (i + k) ++ spW n (i + k) = spW n i
    rw [spW_top h0 h k]
    unfold partW gr
    rw [div_zero h0 h (Nat.le_add_right i k)]
    rfl
theorem spW_any {n : Int} {i k : Nat} (h0 : 0 ≤ n) (h : n < W i) (hk : i ≤ k) : spW n k = spW n i := by
  obtain ⟨d, rfl⟩ := Nat.exists_eq_add_of_le hk
  exact spW_top h0 h d
/-- what the program has put together behind j groups from the highest one -/
def accW (n : Int) (i : Nat) : Nat → List Wo
  | 0 => []
  | j + 1 => accW n i j ++ partW n (i - 1 - j)
theorem accW_spW (n : Int) (i : Nat) : ∀ j, j ≤ i → accW n i j ++ spW n (i - j) = spW n i
  | 0, _ => rfl
  | j + 1, h => by
    have e : i - j = (i - 1 - j) + 1 := by omega
    have ih := accW_spW n i j (by omega)
    rw [e] at ih
    show (accW n i j ++ partW n (i - 1 - j)) ++ spW n (i - (j + 1)) = _
    rw [show i - (j + 1) = i - 1 - j by omega, List.append_assoc]
    exact ih
theorem accW_all (n : Int) (i : Nat) : accW n i i = spW n i := by
  have h := accW_spW n i i (Nat.le_refl _)
  rw [Nat.sub_self] at h
  show accW n i i = _
  rw [← h]
  show _ = accW n i i ++ []
  rw [List.append_nil]
theorem groupW_len {g : Int} : (groupW g).length ≤ 4 := by
  unfold groupW
  rw [List.length_append]
  have a : (if g / 100 > 0 then [Wo.low (g / 100), Wo.hun] else []).length ≤ 2 := by split <;> simp
  have b : (if g % 100 ≥ 20 then Wo.low (10 * (g % 100 / 10)) :: (if g % 100 % 10 > 0 then [Wo.low (g % 100 % 10)] else []) else if g % 100 > 0 then [Wo.low (g % 100)] else []).length ≤ 2 := by
    repeat' split
    all_goals simp
  omega
theorem partW_len (n : Int) (i : Nat) : (partW n i).length ≤ 5 := by
  unfold partW
  split
  · rw [List.length_append]
    have := @groupW_len (gr n i)
    have b : (if i > 0 then [Wo.sc (i - 1)] else []).length ≤ 1 := by split <;> simp
    omega
  · simp
theorem accW_len (n : Int) (i : Nat) : ∀ j, (accW n i j).length ≤ 5 * j
  | 0 => Nat.le_refl _
  | j + 1 => by
    show (accW n i j ++ partW n (i - 1 - j)).length ≤ _
    rw [List.length_append]
    have := accW_len n i j
    have := partW_len n (i - 1 - j)
    omega
end Bg
set_option Elab.async false
set_option linter.all false
set_option maxRecDepth 100000
set_option maxHeartbeats 4000000
/-! The program's own: the words of a number. -/
namespace LB
open PySem L2 Wk
open Bg (Bg Wo)
def wd (ones tens : List Str) (hun : Str) (scales : List Str) : Wo → Str
  | .low n => if n < 20 then (ones[n.toNat]?).getD hun else (tens[(n / 10 - 2).toNat]?).getD hun
  | .hun => hun
  | .sc i => (scales[i]?).getD hun
theorem wd_one {ones tens : List Str} {hun : Str} {scales : List Str} {n : Int} (l : ones.length = 20) (h0 : 0 ≤ n) (h1 : n < 20) : atI (ones.map V.str) n = some (.str (wd ones tens hun scales (.low n))) := by
  obtain ⟨k, rfl⟩ : ∃ k : Nat, n = (k : Int) := ⟨n.toNat, by omega⟩
  have hk : k < ones.length := by omega
  refine atI_nat ?_
  unfold wd
  simp only
  rw [if_pos h1, Int.toNat_natCast, List.getElem?_map, List.getElem?_eq_getElem hk]
  rfl
theorem wd_ten {ones tens : List Str} {hun : Str} {scales : List Str} {k : Int} (l : tens.length = 8) (h0 : 2 ≤ k) (h1 : k ≤ 9) : atI (tens.map V.str) (k - 2) = some (.str (wd ones tens hun scales (.low (10 * k)))) := by
  obtain ⟨j, hj⟩ : ∃ j : Nat, k - 2 = (j : Int) := ⟨(k - 2).toNat, by omega⟩
  have hk : j < tens.length := by omega
  rw [hj]
  refine atI_nat ?_
  unfold wd
  simp only
  rw [if_neg (by omega), show 10 * k / 10 - 2 = (j : Int) by omega, Int.toNat_natCast, List.getElem?_map, List.getElem?_eq_getElem hk]
  rfl
theorem wd_sc {ones tens : List Str} {hun : Str} {scales : List Str} {i : Nat} (h : i < scales.length) : atI (scales.map V.str) (i : Int) = some (.str (wd ones tens hun scales (.sc i))) := by
  refine atI_nat ?_
  unfold wd
  simp only
  rw [List.getElem?_map, List.getElem?_eq_getElem h]
  rfl
def spGroups : Sp := fun vs H Q _ => ∃ (n : Int) (k : Nat), vs = [.int n] ∧ 0 ≤ n ∧ n < Bg.W k ∧ k ≤ 100 ∧
  ∀ (p : Addr) (i : Nat) (H' : Hp), H p = none → Same H H' → i ≤ k → n < Bg.W i → (0 < i → Bg.W (i - 1) ≤ n) → H' p = some (.lst ((List.range i).map fun j => V.int (Bg.gr n j))) → Q (.ref p) H'
def spGW : Sp := fun vs H Q _ => ∃ (t o te sc : Addr) (ones tens : List Str) (hun : Str) (scales : List Str) (g : Int), vs = [.ref t, .int g] ∧ TabAt H t ones tens hun scales o te sc ∧ ones.length = 20 ∧ tens.length = 8 ∧ 0 ≤ g ∧ g ≤ 999 ∧
  ∀ p H', H p = none → Same H H' → H' p = some (.lst (((Bg.groupW g).map (wd ones tens hun scales)).map V.str)) → Q (.ref p) H'
def spSpelled : Sp := fun vs H Q _ => ∃ (t o te sc : Addr) (ones tens : List Str) (hun : Str) (scales : List Str) (n : Int), vs = [.ref t, .int n] ∧ TabAt H t ones tens hun scales o te sc ∧ ones.length = 20 ∧ tens.length = 8 ∧ scales.length ≤ 90 ∧
  0 ≤ n ∧ n < Bg.W (scales.length + 1) ∧ ∀ p H', H p = none → Same H H' → H' p = some (.lst (((Bg.nameW n (scales.length + 1)).map (wd ones tens hun scales)).map V.str)) → Q (.ref p) H'
section
variable {P : Program} {w : World} {K : PySem.W.Frag} {mg : Str → Option Value} {base : Heap}
theorem scGroups : FnScope ["number", "groups", "rest", "group"] ["number"] (defScope sGroupsOf) := ⟨rfl, rfl, rfl, by decide +kernel, rfl, by decide +kernel, by decide +kernel⟩
theorem ok_groups {f : Addr} {fd : FuncData} (F : Fun K "groups_of" "groups_of" sGroupsOf f fd) (mD : mg "divmod" = none) : FnOk P w K mg base CX0 1 f fd ["number"] spGroups := by
  refine F.ok scGroups (fun vs H Q E h => ?_) (fun cdv A outer s H vs Q E hr h => ?_)
  · obtain ⟨n, k, rfl, _⟩ := h
    rfl
  · obtain ⟨n, k, rfl, n0, n1, hk, kk⟩ := h
    refine ⟨_, pss_cons (ps_set (i := 1) scGroups.nd rfl (.inl rfl) (pe_lst pa_nil))
      (pss_cons (ps_set (i := 2) scGroups.nd rfl (.inl rfl) (pv 0))
      (pss_cons (ps_while PassesOwn.never (pt_cmpR op_gt (pv 2) pe_int (nomark _))
        (pss_cons (ps_asg (pe_callB call_divmod (by rfl) mD (by decide +kernel) (pa_cons (pv 2) (pa_cons pe_int pa_nil))) (pg_tup (by rfl) (pgs_cons (pg_name (i := 2) scGroups.nd rfl (.inl rfl)) (pgs_cons (pg_name (i := 3) scGroups.nd rfl (.inl rfl)) pgs_nil))))
        (pss_one (ps_expr (pe_bm PySem.F.plainAttrs_list PySem.F.slot_list_append PySem.F.type_list_append mt_append (pv 1) (pa_cons (pv 3) pa_nil))))))
      (pss_one (ps_ret (pv 1))))), ?_⟩
    refine ⟨Nat.zero_le _, fun p np => ⟨_, rfl, ?_⟩⟩
    have big : 1000 < sizeLine := by decide
    refine while_by (fun σ G => ∃ (i : Nat) (x : Option V), σ = [some (.int n), some (.ref p), some (.int (n / Bg.W i)), x] ∧ i ≤ k ∧ (0 < i → Bg.W (i - 1) ≤ n) ∧ Same H G ∧ G p = some (.lst ((List.range i).map fun j => V.int (Bg.gr n j))))
      (fun σ _ => match σ with | [_, _, some (.int x), _] => x.toNat | _ => 0) ⟨0, none, ?_, Nat.zero_le _, fun h => absurd h (by decide), same_new np, upd_same⟩ ?_ ?_
    · rw [show Bg.W 0 = 1 from rfl, Int.ediv_one]
      rfl
    · rintro σ G ⟨i, x, rfl, ik, wi, s1, hp⟩
      refine ⟨_, rfl, _, _, rfl, rfl, _, rfl, ite2 (fun c => ?_) (fun c => ?_)⟩
      · have pos : n / Bg.W i > 0 := of_decide_eq_true c
        have wn : Bg.W i ≤ n := by
          rcases Int.lt_or_le n (Bg.W i) with z | z
          · rw [Int.ediv_eq_zero_of_lt n0 z] at pos
            omega
          · exact z
        have ik' : i < k := by
          rcases Nat.lt_or_ge i k with z | z
          · exact z
          · have := Bg.W_le z
            omega
        refine ⟨_, rfl, _, _, rfl, ⟨by decide, by decide⟩, fun T nT => ⟨T, _, rfl, SqT.of upd_same, rfl, _, _, rfl, _, _, rfl, rfl, ?_⟩⟩
        have s2 : Same G (upd G T (.tup [.int (n / Bg.W i / 1000), .int (n / Bg.W i % 1000)])) := same_new nT
        refine ⟨_, rfl, .inl ⟨rfl, _, SqL.of (s2 _ _ hp)⟩, _, rfl, p, _, _, rfl, rfl, s2 _ _ hp, ?_, ⟨i + 1, some (.int (n / Bg.W i % 1000)), by rw [← Bg.div_succ]; rfl, ik', fun _ => wn, fun b o e => ?_, ?_⟩, ?_⟩
        · rw [List.length_map, List.length_range]
          omega
        · rw [upd_ne (ne_of_none e np)]
          exact s2 _ _ (s1 _ _ e)
        · rw [upd_same, List.range_succ, List.map_append]
          rfl
        · show (n / Bg.W i / 1000).toNat < (n / Bg.W i).toNat
          omega
      · have zero : ¬ n / Bg.W i > 0 := fun z => c (decide_eq_true z)
        have lt : n < Bg.W i := by
          rcases Int.lt_or_le n (Bg.W i) with z | z
          · exact z
          · have : 1 ≤ n / Bg.W i := (Int.le_ediv_iff_mul_le (Bg.W_pos i)).mpr (by omega)
            omega
        exact ⟨_, rfl, kk p i G np s1 ik lt wi hp⟩
    · rintro σ G Q1 Q2 m ⟨x1, h1, i, j, hi, hj, y, hy, q⟩
      exact ⟨x1, h1, i, j, hi, hj, y, hy, m _ _ q⟩
theorem scGW : FnScope ["table", "group", "ones", "tens", "hundred", "_", "words", "hundreds", "ending"] ["table", "group"] (defScope sGroupWords) := ⟨rfl, rfl, rfl, by decide +kernel, rfl, by decide +kernel, by decide +kernel⟩
theorem ok_groupWords {f : Addr} {fd : FuncData} (F : Fun K "_group_words" "_group_words" sGroupWords f fd) (mD : mg "divmod" = none) : FnOk P w K mg base CX0 1 f fd ["table", "group"] spGW := by
  refine F.ok scGW (fun vs H Q E h => ?_) (fun cdv A outer s H vs Q E hr h => ?_)
  · obtain ⟨t, o, te, sc, ones, tens, hun, scales, g, rfl, _⟩ := h
    rfl
  · obtain ⟨t, o, te, sc, ones, tens, hun, scales, g, rfl, TA, l1, l2, g0, g1, k⟩ := h
    refine ⟨_, pss_cons (ps_asg (pv 0) (pg_tup (by rfl) (pgs_cons (pg_name (i := 2) scGW.nd rfl (.inl rfl)) (pgs_cons (pg_name (i := 3) scGW.nd rfl (.inl rfl)) (pgs_cons (pg_name (i := 4) scGW.nd rfl (.inl rfl)) (pgs_cons (pg_name (i := 5) scGW.nd rfl (.inl rfl)) pgs_nil))))))
      (pss_cons (ps_set (i := 6) scGW.nd rfl (.inl rfl) (pe_lst pa_nil))
      (pss_cons (ps_asg (pe_callB call_divmod (by rfl) mD (by decide +kernel) (pa_cons (pv 1) (pa_cons pe_int pa_nil))) (pg_tup (by rfl) (pgs_cons (pg_name (i := 7) scGW.nd rfl (.inl rfl)) (pgs_cons (pg_name (i := 8) scGW.nd rfl (.inl rfl)) pgs_nil))))
      (pss_mid (ps_if (pt_cmpR op_gt (pv 7) pe_int (nomark _))
        (pss_cons (ps_expr (pe_bm PySem.F.plainAttrs_list PySem.F.slot_list_append PySem.F.type_list_append mt_append (pv 6) (pa_cons (pe_ix ix_list (pv 2) (pv 7) (fun _ _ => rfl)) pa_nil)))
        (pss_one (ps_expr (pe_bm PySem.F.plainAttrs_list PySem.F.slot_list_append PySem.F.type_list_append mt_append (pv 6) (pa_cons (pv 4) pa_nil))))) pss_nil)
      (pss_mid (ps_if (pt_cmpR op_ge (pv 8) pe_int (nomark _))
        (pss_cons (ps_expr (pe_bm PySem.F.plainAttrs_list PySem.F.slot_list_append PySem.F.type_list_append mt_append (pv 6) (pa_cons (pe_ix ix_list (pv 3) (pe_op op_sub (pe_op op_fdiv (pv 8) pe_int) pe_int) (fun _ _ => rfl)) pa_nil)))
        (pss_one (ps_set (i := 8) scGW.nd rfl (.inl rfl) (pe_op op_mod (pv 8) pe_int)))) pss_nil)
      (pss_mid (ps_if (pt_cmpR op_gt (pv 8) pe_int (nomark _))
        (pss_one (ps_expr (pe_bm PySem.F.plainAttrs_list PySem.F.slot_list_append PySem.F.type_list_append mt_append (pv 6) (pa_cons (pe_ix ix_list (pv 2) (pv 8) (fun _ _ => rfl)) pa_nil)))) pss_nil)
      (pss_one (ps_ret (pv 6)))))))), ?_⟩
    refine ⟨_, rfl, t, _, rfl, SqT.of TA.tup, rfl, _, _, rfl, _, _, rfl, _, _, rfl, _, _, rfl, rfl, ?_⟩
    refine ⟨Nat.zero_le _, fun p np => ?_⟩
    have s1 : Same H (upd H p (.lst [])) := same_new np
    refine ⟨_, rfl, _, _, rfl, ⟨by decide, by decide⟩, fun T nT => ⟨T, _, rfl, SqT.of upd_same, rfl, _, _, rfl, _, _, rfl, rfl, ?_⟩⟩
    have s2 := s1.trans (same_new (x := .tup [.int (g / 100), .int (g % 100)]) nT)
    have pT : p ≠ T := ne_of_none upd_same nT
    have big : 10 < sizeLine := by decide
    generalize hw : wd ones tens hun scales = f at k
    have f1 : ∀ {n : Int}, 0 ≤ n → n < 20 → atI (ones.map V.str) n = some (.str (f (.low n))) := fun h0 h1 => by rw [← hw]; exact wd_one l1 h0 h1
    have f2 : ∀ {k : Int}, 2 ≤ k → k ≤ 9 → atI (tens.map V.str) (k - 2) = some (.str (f (.low (10 * k)))) := fun h0 h1 => by rw [← hw]; exact wd_ten l2 h0 h1
    have f3 : hun = f .hun := by rw [← hw]; rfl
    -- the state: what p holds
    let St : List Wo → Int → L2.St → Hp → Prop := fun ws e τ G => τ = [some (.ref t), some (.int g), some (.ref o), some (.ref te), some (.str hun), some (.ref sc), some (.ref p), some (.int (g / 100)), some (.int e)] ∧ G p = some (.lst ((ws.map f).map V.str)) ∧ Same H G
    have put : ∀ {ws : List Wo} {G : Hp} {x : Wo}, G p = some (.lst ((ws.map f).map V.str)) → Same H G → (upd G p (.lst ((ws.map f).map V.str ++ [.str (f x)]))) p = some (.lst (((ws ++ [x]).map f).map V.str)) ∧ Same H (upd G p (.lst ((ws.map f).map V.str ++ [.str (f x)]))) := fun {ws G x} h s => by
      refine ⟨?_, fun b o e => ?_⟩
      · rw [upd_same, List.map_append, List.map_append]
        rfl
      · rw [upd_ne (ne_of_none e np)]
        exact s _ _ e
    refine ⟨St (if g / 100 > 0 then [.low (g / 100), .hun] else []) (g % 100), ?_, ?_⟩
    · refine ⟨_, rfl, _, _, rfl, rfl, _, rfl, ite2 (fun c => ?_) (fun c => ?_)⟩
      · have c' : g / 100 > 0 := of_decide_eq_true c
        have hp0 : upd (upd H p (.lst [])) T (.tup [.int (g / 100), .int (g % 100)]) p = some (.lst ((([] : List Wo).map f).map V.str)) := by
          rw [upd_ne pT, upd_same]
          rfl
        obtain ⟨p1, p2⟩ := put (x := .low (g / 100)) hp0 s2
        refine ⟨_, rfl, .inl ⟨rfl, _, SqL.of hp0⟩, _, rfl, _, rfl, o, _, _, _, rfl, rfl, SqL.of (s2 _ _ TA.lo), f1 (by omega) (by omega), p, _, _, rfl, rfl, hp0, by show 0 < sizeLine; omega, ?_⟩
        obtain ⟨p3, p4⟩ := put (x := .hun) p1 p2
        refine ⟨_, rfl, .inl ⟨rfl, _, SqL.of p1⟩, _, rfl, p, _, _, rfl, rfl, p1, by show 1 < sizeLine; omega, rfl, ?_, ?_⟩
        · rw [if_pos c']
          rw [f3]
          exact p3
        · rw [f3]
          exact p4
      · have c' : ¬ g / 100 > 0 := fun z => c (decide_eq_true z)
        refine ⟨rfl, ?_, s2⟩
        rw [if_neg c', upd_ne pT, upd_same]
        rfl
    rintro τ G ⟨rfl, hp1, s3⟩
    refine ⟨St ((if g / 100 > 0 then [.low (g / 100), .hun] else []) ++ (if g % 100 ≥ 20 then [.low (10 * (g % 100 / 10))] else [])) (if g % 100 ≥ 20 then g % 100 % 10 else g % 100), ?_, ?_⟩
    · refine ⟨_, rfl, _, _, rfl, rfl, _, rfl, ite2 (fun c => ?_) (fun c => ?_)⟩
      · have c' : g % 100 ≥ 20 := of_decide_eq_true c
        obtain ⟨p1, p2⟩ := put (x := .low (10 * (g % 100 / 10))) hp1 s3
        refine ⟨_, rfl, .inl ⟨rfl, _, SqL.of hp1⟩, _, rfl, _, rfl, _, _, rfl, rfl, ⟨by decide, by decide⟩, _, _, rfl, rfl, te, _, _, _, rfl, rfl, SqL.of (s3 _ _ TA.lt), f2 (by omega) (by omega), p, _, _, rfl, rfl, hp1, ?_, ?_⟩
        · rw [List.length_map, List.length_map]
          split <;> (show _ < sizeLine; simp; omega)
        · refine ⟨_, rfl, _, _, rfl, rfl, (by show (0 : Int) < 10; decide), ?_, ?_, ?_⟩
          · rw [if_pos c']
            rfl
          · rw [if_pos c']
            exact p1
          · exact p2
      · have c' : ¬ g % 100 ≥ 20 := fun z => c (decide_eq_true z)
        refine ⟨?_, ?_, s3⟩
        · rw [if_neg c']
        · rw [if_neg c', List.append_nil]
          exact hp1
    rintro τ G2 ⟨rfl, hp2, s4⟩
    have whole : Bg.groupW g = ((if g / 100 > 0 then [.low (g / 100), .hun] else []) ++ (if g % 100 ≥ 20 then [.low (10 * (g % 100 / 10))] else [])) ++ (if (if g % 100 ≥ 20 then g % 100 % 10 else g % 100) > 0 then [.low (if g % 100 ≥ 20 then g % 100 % 10 else g % 100)] else []) := by
      unfold Bg.groupW
      rw [List.append_assoc]
      congr 1
      by_cases z : g % 100 ≥ 20
      · rw [if_pos z, if_pos z, if_pos z]
        rfl
      · rw [if_neg z, if_neg z, if_neg z]
        rfl
    refine ⟨St (Bg.groupW g) (if g % 100 ≥ 20 then g % 100 % 10 else g % 100), ?_, ?_⟩
    · generalize he : (if g % 100 ≥ 20 then g % 100 % 10 else g % 100) = e at hp2 whole ⊢
      have e1 : 0 ≤ e ∧ e < 20 := by
        rw [← he]
        split <;> omega
      refine ⟨_, rfl, _, _, rfl, rfl, _, rfl, ite2 (fun c => ?_) (fun c => ?_)⟩
      · have c' : e > 0 := of_decide_eq_true c
        obtain ⟨p1, p2⟩ := put (x := .low e) hp2 s4
        refine ⟨_, rfl, .inl ⟨rfl, _, SqL.of hp2⟩, _, rfl, _, rfl, o, _, _, _, rfl, rfl, SqL.of (s4 _ _ TA.lo), f1 e1.1 e1.2, p, _, _, rfl, rfl, hp2, ?_, rfl, ?_, p2⟩
        · rw [List.length_map, List.length_map, List.length_append]
          have a1 : (if g / 100 > 0 then [Wo.low (g / 100), Wo.hun] else []).length ≤ 2 := by split <;> simp
          have a2 : (if g % 100 ≥ 20 then [Wo.low (10 * (g % 100 / 10))] else []).length ≤ 1 := by split <;> simp
          omega
        · rw [whole, if_pos c']
          exact p1
      · have c' : ¬ e > 0 := fun z => c (decide_eq_true z)
        refine ⟨rfl, ?_, s4⟩
        rw [whole, if_neg c', List.append_nil]
        exact hp2
    rintro τ G3 ⟨rfl, hp3, s5⟩
    exact ⟨_, rfl, k p G3 np s5 hp3⟩
theorem scSpelled : FnScope ["table", "number", "ones", "_", "scales", "groups", "words", "at"] ["table", "number"] (defScope sSpelled) := ⟨rfl, rfl, rfl, by decide +kernel, rfl, by decide +kernel, by decide +kernel⟩
theorem ok_spelled {f fG fW : Addr} {fd dG dW : FuncData} (F : Fun K "spelled" "spelled" sSpelled f fd) (DG : Def1 P w K mg base "groups_of" 1 fG dG ["number"] spGroups) (DW : Def1 P w K mg base "_group_words" 1 fW dW ["table", "group"] spGW)
    (mR : mg "reversed" = none) (mN : mg "range" = none) (mL : mg "len" = none) : FnOk P w K mg base CX0 2 f fd ["table", "number"] spSpelled := by
  refine F.ok scSpelled (fun vs H Q E h => ?_) (fun cdv A outer s H vs Q E hr h => ?_)
  · obtain ⟨t, o, te, sc, ones, tens, hun, scales, n, rfl, _⟩ := h
    rfl
  · obtain ⟨t, o, te, sc, ones, tens, hun, scales, n, rfl, TA, l1, l2, l3, n0, n1, k⟩ := h
    refine ⟨_, pss_cons (ps_asg (pv 0) (pg_tup (by rfl) (pgs_cons (pg_name (i := 2) scSpelled.nd rfl (.inl rfl)) (pgs_cons (pg_name (i := 3) scSpelled.nd rfl (.inl rfl)) (pgs_cons (pg_name (i := 3) scSpelled.nd rfl (.inl rfl)) (pgs_cons (pg_name (i := 4) scSpelled.nd rfl (.inl rfl)) pgs_nil))))))
      (pss_cons (ps_if (pt_cmpR op_eq (pv 1) pe_int (nomark _)) (pss_one (ps_ret (pe_lst (pa_cons (pe_ix ix_list (pv 2) pe_int (fun _ _ => rfl)) pa_nil)))) pss_nil)
      (pss_cons (ps_set (i := 5) scSpelled.nd rfl (.inl rfl) (pe_call DG.ok hr (by rfl) DG.g DG.k DG.b .nil pass0 (pa_cons (pv 1) pa_nil)))
      (pss_cons (ps_set (i := 6) scSpelled.nd rfl (.inl rfl) (pe_lst pa_nil))
      (pss_cons (ps_for PassesOwn.never rfl (pi_revR rfl mR (prg_1 rfl mN (pe_callB call_len_seq (by rfl) mL PySem.boot_len (pa_cons (pv 5) pa_nil)))) (pg_name (i := 7) scSpelled.nd rfl (.inl rfl))
        (pss_one (ps_if (pt_cmpR op_gt (pe_ix ix_list (pv 5) (pv 7) (fun _ _ => rfl)) pe_int (nomark _))
          (pss_cons (ps_expr (pe_bm PySem.F.plainAttrs_list PySem.F.slot_list_extend PySem.F.type_list_extend mt_extend (pv 6) (pa_cons (pe_call DW.ok hr (by rfl) DW.g DW.k DW.b .nil pass0 (pa_cons (pv 0) (pa_cons (pe_ix ix_list (pv 5) (pv 7) (fun _ _ => rfl)) pa_nil))) pa_nil)))
          (pss_one (ps_if (pt_cmpR op_gt (pv 7) pe_int (nomark _)) (pss_one (ps_expr (pe_bm PySem.F.plainAttrs_list PySem.F.slot_list_append PySem.F.type_list_append mt_append (pv 6) (pa_cons (pe_ix ix_list (pv 4) (pe_op op_sub (pv 7) pe_int) (fun _ _ => rfl)) pa_nil)))) pss_nil)))
          pss_nil)))
      (pss_one (ps_ret (pv 6))))))), ?_⟩
    refine ⟨_, rfl, t, _, rfl, SqT.of TA.tup, rfl, _, _, rfl, _, _, rfl, _, _, rfl, _, _, rfl, rfl, ?_⟩
    have big : 1000 < sizeLine := by decide
    refine ⟨_, rfl, rfl, _, rfl, ite2 (fun c => ?_) (fun c => ?_)⟩
    · have e : n = 0 := V.int.inj (of_decide_eq_true c)
      refine ⟨_, rfl, o, _, _, _, rfl, rfl, SqL.of TA.lo, wd_one (tens := tens) (hun := hun) (scales := scales) l1 (Int.le_refl 0) (by decide), by show 1 ≤ sizeLine; omega, fun p np => k p _ np (same_new np) ?_⟩
      rw [upd_same, e]
      rfl
    have hn : n ≠ 0 := fun z => c (decide_eq_true (by rw [z]))
    refine ⟨_, rfl, n, scales.length + 1, rfl, n0, n1, by omega, fun q i H1 nq s1 il hi1 hi2 hq => ?_⟩
    refine ⟨Nat.zero_le _, fun p np => ?_⟩
    have s2 : Same H1 (upd H1 p (.lst [])) := same_new np
    refine ⟨_, rfl, q, _, rfl, .inl (SqL.of (s2 _ _ hq)), _, rfl, ?_⟩
    rw [List.length_map, List.length_range]
    have n_i : ((i : Int) - 0).toNat = i := by omega
    refine ⟨by omega, by omega, by omega, by omega, ?_⟩
    generalize hw : wd ones tens hun scales = f at k
    have pq : p ≠ q := (ne_of_none hq np).symm
    refine for_rangeC (lo := 0 + ((((i : Int) - 0).toNat : Nat) : Int) - 1) (c := -1) (n := ((i : Int) - 0).toNat) (fun j σ G => ∃ x : Option V, σ = [some (.ref t), some (.int n), some (.ref o), some (.str hun), some (.ref sc), some (.ref q), some (.ref p), x] ∧ Same H1 G ∧ G p = some (.lst (((Bg.accW n i j).map f).map V.str))) ⟨none, rfl, s2, upd_same⟩ ?_ ?_
    · rintro j σ G ji ⟨x, rfl, s3, hp⟩
      rw [n_i] at ji
      have ea : (0 + ((((i : Int) - 0).toNat : Nat) : Int) - 1 + (j : Nat) * (-1) : Int) = ((i - 1 - j : Nat) : Int) := by omega
      rw [ea]
      generalize hm : i - 1 - j = m
      have mi : m < i := by omega
      have at_ : atI ((List.range i).map fun j => V.int (Bg.gr n j)) (m : Int) = some (.int (Bg.gr n m)) := atI_nat (by rw [List.getElem?_map, List.getElem?_range mi]; rfl)
      obtain ⟨g0, g9⟩ := Bg.gr_bnd n m
      have la := Bg.accW_len n i j
      refine ⟨_, rfl, _, rfl, q, _, _, _, rfl, rfl, SqL.of (s3 _ _ hq), at_, _, _, rfl, rfl, _, rfl, ite2 (fun c1 => ?_) (fun c1 => ?_)⟩
      · have c1' : Bg.gr n m > 0 := of_decide_eq_true c1
        have TA3 : TabAt G t ones tens hun scales o te sc := ⟨s3 _ _ (s1 _ _ TA.tup), s3 _ _ (s1 _ _ TA.lo), s3 _ _ (s1 _ _ TA.lt), s3 _ _ (s1 _ _ TA.ls)⟩
        refine ⟨_, rfl, .inl ⟨rfl, _, SqL.of hp⟩, _, rfl, _, rfl, _, rfl, q, _, _, _, rfl, rfl, SqL.of (s3 _ _ hq), at_, t, o, te, sc, ones, tens, hun, scales, _, rfl, TA3, l1, l2, g0, g9, fun z G2 nz s4 hz => ?_⟩
        rw [hw] at hz
        have lg := @Bg.groupW_len (Bg.gr n m)
        refine ⟨p, z, _, _, rfl, rfl, s4 _ _ hp, hz, by rw [List.length_map, List.length_map, List.length_map, List.length_map]; omega, ?_⟩
        have s5 : ∀ {ys : List V}, Same H1 (upd G2 p (.lst ys)) := fun b o e => by
          rw [upd_ne (ne_of_none e np)]
          exact s4 _ _ (s3 _ _ e)
        have part : Bg.accW n i (j + 1) = Bg.accW n i j ++ (Bg.groupW (Bg.gr n m) ++ (if m > 0 then [.sc (m - 1)] else [])) := by
          show Bg.accW n i j ++ Bg.partW n (i - 1 - j) = _
          rw [hm]
          unfold Bg.partW
          rw [if_pos c1']
        refine ⟨_, rfl, _, _, rfl, rfl, _, rfl, ite2 (fun c2 => ?_) (fun c2 => ?_)⟩
        · have c2' : (m : Int) > 0 := of_decide_eq_true c2
          have em : (m : Int) - 1 = ((m - 1 : Nat) : Int) := by omega
          have ls3 : upd G2 p (.lst (((Bg.accW n i j).map f).map V.str ++ ((Bg.groupW (Bg.gr n m)).map f).map V.str)) sc = some (.lst (scales.map V.str)) := s5 _ _ (s1 _ _ TA.ls)
          refine ⟨_, rfl, .inl ⟨rfl, _, SqL.of upd_same⟩, _, rfl, _, rfl, _, _, rfl, rfl, sc, _, _, _, rfl, rfl, SqL.of ls3, by rw [em]; exact wd_sc (ones := ones) (tens := tens) (hun := hun) (by omega), p, _, _, rfl, rfl, upd_same, ?_, ?_⟩
          · rw [List.length_append, List.length_map, List.length_map, List.length_map, List.length_map]
            omega
          · refine ⟨_, rfl, fun b o e => ?_, ?_⟩
            · rw [upd_ne (ne_of_none e np)]
              exact s5 _ _ e
            · rw [upd_same, part, if_pos (by omega), hw]
              simp only [List.map_append, List.append_assoc]
              rfl
        · have c2' : ¬ (m : Int) > 0 := fun z => c2 (decide_eq_true z)
          refine ⟨_, rfl, s5, ?_⟩
          rw [upd_same, part, if_neg (by omega), List.append_nil, List.map_append, List.map_append]
      · have c1' : ¬ Bg.gr n m > 0 := fun z => c1 (decide_eq_true z)
        refine ⟨_, rfl, s3, ?_⟩
        rw [hp]
        show _ = some (HO.lst (((Bg.accW n i j ++ Bg.partW n (i - 1 - j)).map f).map V.str))
        rw [hm]
        unfold Bg.partW
        rw [if_neg c1', List.append_nil]
    · rintro σ G ⟨x, rfl, s3, hp⟩
      refine ⟨_, rfl, k p G (s1.free np) (s1.trans s3) ?_⟩
      rw [hp, n_i, Bg.accW_all]
      unfold Bg.nameW
      rw [if_neg hn, Bg.spW_any n0 hi1 il]
end
end LB
set_option Elab.async false
set_option linter.all false
set_option maxRecDepth 100000
set_option maxHeartbeats 4000000
/-! The program's own: the place of a number, the number at a place. -/
namespace LB
open PySem L2 Wk
open Bg (Bg Wo)
def cfS (F : Int → Int) (e : Str × Bg) : Int := Bg.cf F e.2
/-- the step to the word x: the beginning behind it, or the same one if no step has it -/
def nxt (st : List (Str × Bg)) (b : Bg) (x : Str) : Bg := match st.find? fun e => decide (e.1 = x) with
  | some e => e.2
  | none => b
/-- the place that the program counts -/
def plc (F : Int → Int) (ws : List (Str × Wo)) : Bg → List Str → Int → Int
  | _, [], acc => acc
  | b, x :: xs, acc => plc F ws (nxt (stepsOf b ws) b x) xs (acc + Bg.own F b + Bg.sumL (cfS F) ((stepsOf b ws).takeWhile fun e => decide (e.1 ≠ x)))
/-- the program finds r at the place left behind b -/
inductive NumAt (F : Int → Int) (ws : List (Str × Wo)) : Bg → Int → Int → Prop
  | own {b : Bg} : Bg.own F b = 1 → NumAt F ws b 0 (b.t + b.g)
  | step {b c : Bg} {x : Str} {left r : Int} {pre post : List (Str × Bg)} : stepsOf b ws = pre ++ (x, c) :: post → 0 ≤ left - Bg.own F b - Bg.sumL (cfS F) pre → left - Bg.own F b - Bg.sumL (cfS F) pre < Bg.cf F c →
      NumAt F ws c (left - Bg.own F b - Bg.sumL (cfS F) pre) r → NumAt F ws b left r
theorem steps_sum (F : Int → Int) (b : Bg) : ∀ ws : List (Str × Wo), Bg.sumL (cfS F) (stepsOf b ws) = Bg.sumL (fun e => Bg.cfo F b e.2) ws
  | [] => rfl
  | e :: ws => by
    have ih := steps_sum F b ws
    unfold stepsOf at ih ⊢
    show Bg.sumL (cfS F) (List.filterMap _ (e :: ws)) = Bg.cfo F b e.2 + Bg.sumL (fun e => Bg.cfo F b e.2) ws
    rw [List.filterMap_cons]
    cases h : Bg.fol b e.2 with
    | none =>
      simp only [Option.map_none]
      rw [ih]
      unfold Bg.cfo
      rw [h]
      simp
    | some c =>
      simp only [Option.map_some]
      show cfS F (e.1, c) + _ = _
      rw [ih]
      congr 1
      unfold Bg.cfo
      rw [h]
      rfl
theorem steps_count {F : Int → Int} {b : Bg} {ws : List (Str × Wo)} {k : Nat} (ok : Bg.Ok b) (hm : b.m ≤ k + 1) (hw : (ws.map (·.2)).Perm (Bg.all k)) : Bg.cf F b = Bg.own F b + Bg.sumL (cfS F) (stepsOf b ws) := by
  rw [steps_sum, Bg.count ok hm, ← Bg.sumL_perm _ hw, Bg.sumL_map]
theorem steps_mem {b : Bg} {ws : List (Str × Wo)} {e : Str × Bg} (h : e ∈ stepsOf b ws) : ∃ x, (e.1, x) ∈ ws ∧ Bg.fol b x = some e.2 := by
  obtain ⟨y, hy, he⟩ := List.mem_filterMap.mp h
  cases q : Bg.fol b y.2 with
  | none =>
    rw [q] at he
    cases he
  | some c =>
    rw [q] at he
    cases he
    exact ⟨y.2, hy, q⟩
theorem take_while_next {α : Type} {p : α → Bool} {l : List α} {i : Nat} {x : α} (h : l[i]? = some x) (hb : ∀ y ∈ l.take i, p y = true) (hx : p x = false) : l.takeWhile p = l.take i := by
  obtain ⟨hi, e⟩ := List.getElem?_eq_some_iff.mp h
  have z := List.take_append_drop i l
  rw [List.drop_eq_getElem_cons hi, e] at z
  conv => lhs; rw [← z]
  rw [List.takeWhile_append_of_pos hb, List.takeWhile_cons_of_neg (by simp [hx]), List.append_nil]
theorem take_while_all {α : Type} {p : α → Bool} {l : List α} (hb : ∀ y ∈ l, p y = true) : l.takeWhile p = l := by
  have := List.takeWhile_append_of_pos (l₂ := []) hb
  simpa using this
theorem find_next {α : Type} {p : α → Bool} {l : List α} {i : Nat} {x : α} (h : l[i]? = some x) (hb : ∀ y ∈ l.take i, p y = false) (hx : p x = true) : l.find? p = some x := by
  obtain ⟨hi, e⟩ := List.getElem?_eq_some_iff.mp h
  have z := List.take_append_drop i l
  rw [List.drop_eq_getElem_cons hi, e] at z
  rw [← z, List.find?_append, List.find?_eq_none.mpr (fun y hy => by simp [hb y hy]), List.find?_cons_of_pos hx]
  rfl
/-- the table, valid, with its words -/
structure Tbl (H : Hp) (t : Addr) (ones tens : List Str) (hun : Str) (scales : List Str) (o te sc : Addr) : Prop where
  at_ : TabAt H t ones tens hun scales o te sc
  l1 : ones.length = 20
  l2 : tens.length = 8
  l3 : scales.length ≤ 90
  nd : (ones ++ (tens ++ hun :: scales)).Nodup
theorem Tbl.same {H H' : Hp} {t : Addr} {ones tens : List Str} {hun : Str} {scales : List Str} {o te sc : Addr} (T : Tbl H t ones tens hun scales o te sc) (s : Same H H') : Tbl H' t ones tens hun scales o te sc :=
  ⟨⟨s _ _ T.at_.tup, s _ _ T.at_.lo, s _ _ T.at_.lt, s _ _ T.at_.ls⟩, T.l1, T.l2, T.l3, T.nd⟩
def spPlaceW : Sp := fun vs H Q _ => ∃ (t o te sc : Addr) (ones tens : List Str) (hun : Str) (scales : List Str) (n lo hi : Int), vs = [.ref t, .int n, .int lo, .int hi] ∧ Tbl H t ones tens hun scales o te sc ∧
  0 ≤ n ∧ n < Bg.W (scales.length + 1) ∧ lo ≤ hi ∧ ∀ ws H', Same H H' → ws.Perm (voc ones tens hun scales) → ascW ws →
    Q (.int (plc (Bg.fb lo hi) ws (Bg.start scales.length) ((Bg.nameW n (scales.length + 1)).map (wd ones tens hun scales)) 0)) H'
def spNumW : Sp := fun vs H Q _ => ∃ (t o te sc : Addr) (ones tens : List Str) (hun : Str) (scales : List Str) (n lo hi : Int), vs = [.ref t, .int n, .int lo, .int hi] ∧ Tbl H t ones tens hun scales o te sc ∧
  0 ≤ lo ∧ lo ≤ hi ∧ hi < Bg.W (scales.length + 1) ∧ 0 ≤ n ∧ n ≤ hi - lo ∧ ∀ ws r H', Same H H' → ws.Perm (voc ones tens hun scales) → ascW ws → NumAt (Bg.fb lo hi) ws (Bg.start scales.length) n r → Q (.int r) H'
section
variable {P : Program} {w : World} {K : PySem.W.Frag} {mg : Str → Option Value} {base : Heap}
theorem cs_get {cs : List (Addr × Str × Addr × Bg)} {i : Nat} {y : V} (h : (cs.map fun c => V.ref c.1)[i]? = some y) : ∃ c, cs[i]? = some c ∧ y = .ref c.1 := by
  rw [List.getElem?_map] at h
  cases q : cs[i]? with
  | none =>
    rw [q] at h
    cases h
  | some c =>
    rw [q] at h
    exact ⟨c, rfl, (Option.some.inj h).symm⟩
end
end LB
set_option Elab.async false
set_option linter.all false
set_option maxRecDepth 100000
set_option maxHeartbeats 4000000
/-! Names as paths of beginnings. -/
namespace Bg
def folL : Bg → List Wo → Option Bg
  | b, [] => some b
  | b, x :: xs => (fol b x).bind fun c => folL c xs
theorem folL_app : ∀ (a : List Wo) (b : Bg) (c : List Wo), folL b (a ++ c) = (folL b a).bind fun d => folL d c
  | [], _, _ => rfl
  | x :: a, b, c => by
    show (fol b x).bind (fun d => folL d (a ++ c)) = ((fol b x).bind fun d => folL d a).bind fun d => folL d c
    cases fol b x with
    | none => rfl
    | some d => exact folL_app a d c
theorem folL_one {b c : Bg} {x : Wo} (h : fol b x = some c) (xs : List Wo) : folL b (x :: xs) = folL c xs := by
  show (fol b x).bind (fun d => folL d xs) = _
  rw [h]
  rfl
theorem fol_dig {t g r : Int} {m : Nat} {n : Int} (h1 : 0 < n) (h2 : n < 10) (hr : r ≥ 10) : fol ⟨t, g, r, m⟩ (.low n) = some ⟨t, g + n, 1, m⟩ := by
  unfold fol
  simp only
  rw [if_neg (by omega), if_neg (by omega), if_pos hr]
theorem fol_ten {t g : Int} {m : Nat} {n : Int} (h1 : 10 ≤ n) : fol ⟨t, g, 100, m⟩ (.low n) = some ⟨t, g + n, if n ≥ 20 then 10 else 1, m⟩ := by
  unfold fol
  simp only
  rw [if_neg (by omega), if_pos h1, if_pos trivial]
theorem fol_hun {t g r : Int} {m : Nat} (h1 : 0 < g) (h2 : g < 10) : fol ⟨t, g, r, m⟩ .hun = some ⟨t, g * 100, 100, m⟩ := by
  unfold fol
  simp only
  rw [if_pos ⟨h1, h2⟩]
theorem fol_sc {t g r : Int} {m i : Nat} (h1 : 0 < g) (h2 : i + 1 < m) : fol ⟨t, g, r, m⟩ (.sc i) = some ⟨t + g * W (i + 1), 0, 100, i + 1⟩ := by
  unfold fol
  simp only
  rw [if_pos ⟨h1, h2⟩]
theorem group_path {t g : Int} {m : Nat} (h1 : 1 ≤ g) (h2 : g ≤ 999) : ∃ r, folL ⟨t, 0, 100, m⟩ (groupW g) = some ⟨t, g, r, m⟩ := by
  unfold groupW
  rw [folL_app]
  have hd : folL ⟨t, 0, 100, m⟩ (if g / 100 > 0 then [.low (g / 100), .hun] else []) = some ⟨t, 100 * (g / 100), 100, m⟩ := by
    by_cases c : g / 100 > 0
    · rw [if_pos c, folL_one (fol_dig (by omega) (by omega) (by omega)), folL_one (fol_hun (by omega) (by omega))]
      show some _ = some _
      congr 2
      omega
    · rw [if_neg c, show g / 100 = 0 by omega]
      rfl
  rw [hd]
  show ∃ r, folL ⟨t, 100 * (g / 100), 100, m⟩ _ = _
  by_cases c : g % 100 ≥ 20
  · rw [if_pos c, folL_one (fol_ten (by omega)), if_pos (by omega)]
    by_cases d : g % 100 % 10 > 0
    · rw [if_pos d, folL_one (fol_dig (by omega) (by omega) (by omega))]
      refine ⟨1, ?_⟩
      show some _ = some _
      congr 2
      omega
    · rw [if_neg d]
      refine ⟨10, ?_⟩
      show some _ = some _
      congr 2
      omega
  · rw [if_neg c]
    by_cases d : g % 100 > 0
    · rw [if_pos d]
      by_cases e : 10 ≤ g % 100
      · rw [folL_one (fol_ten e), if_neg (by omega)]
        refine ⟨1, ?_⟩
        show some _ = some _
        congr 2
        omega
      · rw [folL_one (fol_dig (by omega) (by omega) (by omega))]
        refine ⟨1, ?_⟩
        show some _ = some _
        congr 2
        omega
    · rw [if_neg d]
      refine ⟨100, ?_⟩
      show some _ = some _
      congr 2
      omega
theorem mod_succ (n : Int) (k : Nat) : n % W (k + 1) = gr n k * W k + n % W k := by
  have p := W_pos k
  unfold gr
  have e1 := Int.emod_add_mul_ediv n (W k)
  have e2 := Int.emod_add_mul_ediv (n / W k) 1000
  have e3 := Int.emod_add_mul_ediv n (W (k + 1))
  rw [div_succ] at e2
  rw [W_succ] at e3 ⊢
  have b1 := Int.emod_nonneg (n / W k) (show (1000 : Int) ≠ 0 by decide)
  -- n = n % W + W * (n / W); n / W = r + 1000 * q
  rw [W_succ] at e2
  have : W k * (n / W k) = W k * (n / W k % 1000) + 1000 * W k * (n / (1000 * W k)) := by
    conv => lhs; rw [← e2]
    rw [Int.mul_add, ← Int.mul_assoc, Int.mul_comm (W k) 1000]
  rw [Int.mul_comm (n / W k % 1000) (W k)]
  omega
theorem sp_path (n : Int) : ∀ (k : Nat) (t : Int) (m : Nat), k ≤ m → ∃ c, folL ⟨t, 0, 100, m⟩ (spW n k) = some c ∧ c.t + c.g = t + n % W k
  | 0, t, m, _ => ⟨_, rfl, by show t + 0 = t + n % 1; omega⟩
  | k + 1, t, m, h => by
    have gb := gr_bnd n k
    rw [mod_succ]
    show ∃ c, folL ⟨t, 0, 100, m⟩ (partW n k ++ spW n k) = some c ∧ _
    rw [folL_app]
    unfold partW
    by_cases c : gr n k > 0
    · rw [if_pos c, folL_app]
      obtain ⟨r, hr⟩ := group_path (t := t) (m := m) (show 1 ≤ gr n k by omega) gb.2
      rw [hr]
      by_cases d : k > 0
      · rw [if_pos d]
        obtain ⟨j, rfl⟩ : ∃ j, k = j + 1 := ⟨k - 1, by omega⟩
        show ∃ c, (folL ⟨t, gr n (j + 1), r, m⟩ [.sc (j + 1 - 1)]).bind (fun d => folL d (spW n (j + 1))) = some c ∧ _
        rw [Nat.add_sub_cancel, folL_one (fol_sc c (by omega))]
        obtain ⟨c', h1, h2⟩ := sp_path n (j + 1) (t + gr n (j + 1) * W (j + 1)) (j + 1) (Nat.le_refl _)
        exact ⟨c', h1, by omega⟩
      · have e : k = 0 := by omega
        subst e
        rw [if_neg (by decide)]
        refine ⟨_, rfl, ?_⟩
        show t + gr n 0 = t + (gr n 0 * 1 + n % 1)
        omega
    · rw [if_neg c]
      have z : gr n k = 0 := by omega
      obtain ⟨c', h1, h2⟩ := sp_path n k t m (by omega)
      refine ⟨c', h1, ?_⟩
      rw [h2, z, Int.zero_mul, Int.zero_add]
theorem name_path {n : Int} {k : Nat} (h0 : 0 ≤ n) (h1 : n < W (k + 1)) : ∃ c, folL (start k) (nameW n (k + 1)) = some c ∧ has c = true ∧ c.t + c.g = n := by
  unfold nameW
  by_cases z : n = 0
  · rw [if_pos z]
    refine ⟨zero, rfl, rfl, ?_⟩
    rw [z]
    rfl
  · rw [if_neg z]
    obtain ⟨c, h2, h3⟩ := sp_path n (k + 1) 0 (k + 1) (Nat.le_refl _)
    rw [Int.emod_eq_of_lt h0 h1, Int.zero_add] at h3
    refine ⟨c, h2, ?_, h3⟩
    unfold has
    rw [decide_eq_true (show c.t + c.g > 0 by omega)]
    rfl
/-! ### the words of names are words of the table -/
theorem low_all {k : Nat} {n : Int} (h0 : 0 ≤ n) (h1 : n < 20) : Wo.low n ∈ all k := by
  refine List.mem_cons_of_mem _ (List.mem_append_left _ (List.mem_map.mpr ⟨n.toNat, List.mem_range.mpr (by omega), ?_⟩))
  congr 1
  omega
theorem ten_all {k : Nat} {n : Int} (h0 : 2 ≤ n) (h1 : n ≤ 9) : Wo.low (10 * n) ∈ all k := by
  refine List.mem_cons_of_mem _ (List.mem_append_right _ (List.mem_append_left _ (List.mem_map.mpr ⟨(n - 2).toNat, List.mem_range.mpr (by omega), ?_⟩)))
  congr 1
  omega
theorem sc_all {k i : Nat} (h : i < k) : Wo.sc i ∈ all k := List.mem_cons_of_mem _ (List.mem_append_right _ (List.mem_append_right _ (List.mem_map.mpr ⟨i, List.mem_range.mpr h, rfl⟩)))
theorem group_all {k : Nat} {g : Int} (h1 : 0 ≤ g) (h2 : g ≤ 999) : ∀ x ∈ groupW g, x ∈ all k := by
  intro x hx
  unfold groupW at hx
  rcases List.mem_append.mp hx with hx | hx
  · split at hx
    · rcases List.mem_cons.mp hx with rfl | hx
      · exact low_all (by omega) (by omega)
      · rw [List.mem_singleton.mp hx]
        exact List.mem_cons_self
    · cases hx
  · split at hx
    · rcases List.mem_cons.mp hx with rfl | hx
      · exact ten_all (by omega) (by omega)
      · split at hx
        · rw [List.mem_singleton.mp hx]
          exact low_all (by omega) (by omega)
        · cases hx
    · split at hx
      · rw [List.mem_singleton.mp hx]
        exact low_all (by omega) (by omega)
      · cases hx
theorem sp_all {n : Int} {k : Nat} : ∀ i, i ≤ k + 1 → ∀ x ∈ spW n i, x ∈ all k
  | 0, _, x, hx => nomatch hx
  | i + 1, h, x, hx => by
    rcases List.mem_append.mp (show x ∈ partW n i ++ spW n i from hx) with hx | hx
    · have gb := gr_bnd n i
      unfold partW at hx
      split at hx
      · rcases List.mem_append.mp hx with hx | hx
        · exact group_all gb.1 gb.2 x hx
        · split at hx
          · rw [List.mem_singleton.mp hx]
            exact sc_all (by omega)
          · cases hx
      · cases hx
    · exact sp_all i (by omega) x hx
theorem name_all {n : Int} {k : Nat} : ∀ x ∈ nameW n (k + 1), x ∈ all k := by
  intro x hx
  unfold nameW at hx
  split at hx
  · rw [List.mem_singleton.mp hx]
    exact low_all (by decide) (by decide)
  · exact sp_all (k + 1) (Nat.le_refl _) x hx
/-! ### one number alone -/
theorem one_own {m : Int} {b : Bg} : own (fb m m) b = if has b = true ∧ b.t + b.g = m then 1 else 0 := by
  unfold own
  cases has b with
  | false => simp
  | true =>
    rw [if_pos rfl, fb_one (Int.le_refl m)]
    by_cases c : b.t + b.g = m
    · rw [if_pos (by omega), if_pos ⟨rfl, c⟩]
    · rw [if_neg (by omega), if_neg (by simp [c])]
/-- ends of sums of numbers that are not negative -/
theorem sumL_ge {α : Type} {f : α → Int} : ∀ {l : List α}, (∀ x ∈ l, 0 ≤ f x) → ∀ x ∈ l, f x ≤ sumL f l
  | y :: l, h, x, hx => by
    have h0 := h y List.mem_cons_self
    have hl := sumL_nonneg l fun z hz => h z (List.mem_cons_of_mem _ hz)
    show f x ≤ f y + sumL f l
    rcases List.mem_cons.mp hx with rfl | hx
    · omega
    · have := sumL_ge (fun z hz => h z (List.mem_cons_of_mem _ hz)) x hx
      omega
theorem cf_add (F G : Int → Int) (b : Bg) : cf (fun x => F x + G x) b = cf F b + cf G b := by
  unfold cf
  split
  · dsimp only
    omega
  · rw [← sumR_add]
    refine sumR_congr b.m fun j _ => ?_
    unfold cj
    simp only
    split <;> omega
theorem own_add (F G : Int → Int) (b : Bg) : own (fun x => F x + G x) b = own F b + own G b := by
  unfold own
  split
  · dsimp only
    omega
  · rfl
/-- the numbers of a range, one by one -/
theorem fb_sum (lo : Int) (n : Nat) : (fun x => fb lo (lo + (n : Int) - 1) x) = fun x => sumR (fun i => fb (lo + (i : Int)) (lo + (i : Int)) x) n := by
  funext x
  induction n with
  | zero =>
    show fb lo (lo + 0 - 1) x = 0
    unfold fb mx mn
    repeat' split
    all_goals omega
  | succ n ih =>
    show _ = sumR (fun i => fb (lo + (i : Int)) (lo + (i : Int)) x) n + fb (lo + (n : Int)) (lo + (n : Int)) x
    rw [← ih]
    unfold fb mx mn
    repeat' split
    all_goals omega
end Bg
set_option Elab.async false
set_option linter.all false
set_option maxRecDepth 100000
set_option maxHeartbeats 4000000
/-! Places are what the order of the names says. -/
namespace LB
open PySem L2 Wk
open Bg (Bg Wo)
/-- the order of names as lists of words -/
def ltL : List Str → List Str → Bool
  | _, [] => false
  | [], _ :: _ => true
  | a :: as, b :: bs => if WkI.ltS a b = true then true else if a = b then ltL as bs else false
theorem ltS_irrefl (x : Str) : WkI.ltS x x = false := decide_eq_false (List.lt_irrefl _)
theorem ltS_asym {x y : Str} (h : WkI.ltS x y = true) : WkI.ltS y x = false := (WkI.swoS (fun x : Str => x)).asym x y h
theorem ltS_trans {x y z : Str} (h1 : WkI.ltS x y = true) (h2 : WkI.ltS y z = true) : WkI.ltS x z = true := (WkI.swoS (fun x : Str => x)).ltle h1 (ltS_asym h2)
theorem ltL_irrefl : ∀ a : List Str, ltL a a = false
  | [] => rfl
  | x :: a => by
    show (if WkI.ltS x x = true then true else if x = x then ltL a a else false) = false
    rw [ltS_irrefl, if_neg Bool.false_ne_true, if_pos rfl, ltL_irrefl a]
theorem ltL_asym : ∀ {a b : List Str}, ltL a b = true → ltL b a = false
  | [], [], h => nomatch h
  | [], _ :: _, _ => rfl
  | _ :: _, [], h => nomatch h
  | x :: a, y :: b, h => by
    have h' : (if WkI.ltS x y = true then true else if x = y then ltL a b else false) = true := h
    show (if WkI.ltS y x = true then true else if y = x then ltL b a else false) = false
    by_cases c : WkI.ltS x y = true
    · rw [ltS_asym c, if_neg Bool.false_ne_true, if_neg]
      intro e
      rw [e, ltS_irrefl] at c
      cases c
    · rw [if_neg c] at h'
      by_cases d : x = y
      · subst d
        rw [if_pos rfl] at h'
        rw [if_neg c, if_pos rfl, ltL_asym h']
      · rw [if_neg d] at h'
        cases h'
theorem ltL_trans : ∀ {a b c : List Str}, ltL a b = true → ltL b c = true → ltL a c = true
  | a, [], _, h, _ => by
    have z : ltL a [] = false := by cases a <;> rfl
    rw [z] at h
    cases h
  | _, _ :: _, [], _, h => nomatch h
  | [], _ :: _, _ :: _, _, _ => rfl
  | x :: a, y :: b, z :: c, h1, h2 => by
    have h1' : (if WkI.ltS x y = true then true else if x = y then ltL a b else false) = true := h1
    have h2' : (if WkI.ltS y z = true then true else if y = z then ltL b c else false) = true := h2
    show (if WkI.ltS x z = true then true else if x = z then ltL a c else false) = true
    by_cases c1 : WkI.ltS x y = true
    · by_cases c2 : WkI.ltS y z = true
      · rw [if_pos (ltS_trans c1 c2)]
      · rw [if_neg c2] at h2'
        by_cases d : y = z
        · subst d
          rw [if_pos c1]
        · rw [if_neg d] at h2'
          cases h2'
    · rw [if_neg c1] at h1'
      by_cases d : x = y
      · subst d
        rw [if_pos rfl] at h1'
        by_cases c2 : WkI.ltS x z = true
        · rw [if_pos c2]
        · rw [if_neg c2] at h2' ⊢
          by_cases e : x = z
          · subst e
            rw [if_pos rfl] at h2' ⊢
            exact ltL_trans h1' h2'
          · rw [if_neg e] at h2'
            cases h2'
      · rw [if_neg d] at h1'
        cases h1'
theorem ltL_tri : ∀ {a b : List Str}, ltL a b = false → ltL b a = false → a = b
  | [], [], _, _ => rfl
  | [], _ :: _, h, _ => nomatch h
  | _ :: _, [], _, h => nomatch h
  | x :: a, y :: b, h1, h2 => by
    have h1' : (if WkI.ltS x y = true then true else if x = y then ltL a b else false) = false := h1
    have h2' : (if WkI.ltS y x = true then true else if y = x then ltL b a else false) = false := h2
    by_cases c1 : WkI.ltS x y = true
    · rw [if_pos c1] at h1'
      cases h1'
    · by_cases c2 : WkI.ltS y x = true
      · rw [if_pos c2] at h2'
        cases h2'
      · have e : x = y := WkI.ltS_tri (by simpa using c1) (by simpa using c2)
        subst e
        rw [if_neg c1, if_pos rfl] at h1'
        rw [if_neg c2, if_pos rfl] at h2'
        rw [ltL_tri h1' h2']
/-- a table's words, in their order, each once -/
structure Voc (ones tens : List Str) (hun : Str) (scales : List Str) (ws : List (Str × Wo)) : Prop where
  perm : ws.Perm (voc ones tens hun scales)
  asc : ascW ws
  l1 : ones.length = 20
  l2 : tens.length = 8
  nd : (ones ++ (tens ++ hun :: scales)).Nodup
section
variable {ones tens : List Str} {hun : Str} {scales : List Str} {ws : List (Str × Wo)}
theorem voc_wd (l1 : ones.length = 20) (l2 : tens.length = 8) : ∀ e ∈ voc ones tens hun scales, e.1 = wd ones tens hun scales e.2 := by
  have get : ∀ {f : Nat → Wo} {l : List Str} {e : Str × Wo}, e ∈ enumW f l → ∃ i : Nat, l[i]? = some e.1 ∧ e.2 = f i := by
    intro f l e he
    unfold enumW at he
    obtain ⟨y, hy, rfl⟩ := List.mem_map.mp he
    have := List.mem_zipIdx_iff_getElem?.mp hy
    exact ⟨y.2, this, rfl⟩
  intro e he
  unfold voc at he
  rcases List.mem_cons.mp he with rfl | he
  · rfl
  rcases List.mem_append.mp he with he | he
  · obtain ⟨i, hi, e2⟩ := get he
    have := (List.getElem?_eq_some_iff.mp hi).1
    rw [e2]
    unfold wd
    simp only
    rw [if_pos (by omega), Int.toNat_natCast, hi]
    rfl
  rcases List.mem_append.mp he with he | he
  · obtain ⟨i, hi, e2⟩ := get he
    have := (List.getElem?_eq_some_iff.mp hi).1
    rw [e2]
    unfold wd
    simp only
    rw [if_neg (by omega), show 10 * ((i : Int) + 2) / 10 - 2 = (i : Int) by omega, Int.toNat_natCast, hi]
    rfl
  · obtain ⟨i, hi, e2⟩ := get he
    rw [e2]
    unfold wd
    simp only
    rw [hi]
    rfl
theorem Voc.mem (V : Voc ones tens hun scales ws) {x : Wo} (h : x ∈ Bg.all scales.length) : (wd ones tens hun scales x, x) ∈ ws := by
  rw [← voc_snd (hun := hun) (scales := scales) V.l1 V.l2] at h
  obtain ⟨e, he, rfl⟩ := List.mem_map.mp h
  have e1 := voc_wd V.l1 V.l2 e he
  rw [← e1]
  exact V.perm.mem_iff.mpr he
theorem Voc.all (V : Voc ones tens hun scales ws) : (ws.map (·.2)).Perm (Bg.all scales.length) := by
  have := V.perm.map (·.2)
  rw [voc_snd V.l1 V.l2] at this
  exact this
theorem Voc.word (V : Voc ones tens hun scales ws) {e : Str × Wo} (h : e ∈ ws) : e.1 = wd ones tens hun scales e.2 ∧ e.2 ∈ Bg.all scales.length :=
  ⟨voc_wd V.l1 V.l2 e (V.perm.mem_iff.mp h), V.all.mem_iff.mp (List.mem_map.mpr ⟨e, h, rfl⟩)⟩
theorem Voc.inj (V : Voc ones tens hun scales ws) {x y : Wo} (hx : x ∈ Bg.all scales.length) (hy : y ∈ Bg.all scales.length) (h : wd ones tens hun scales x = wd ones tens hun scales y) : x = y := by
  have a := V.mem hx
  have b := V.mem hy
  rw [h] at a
  have key : ∀ {l : List (Str × Wo)}, ascW l → ∀ {w : Str} {p q : Wo}, (w, p) ∈ l → (w, q) ∈ l → p = q := by
    intro l
    induction l with
    | nil => intro _ _ _ _ h; cases h
    | cons e l ih =>
      intro asc w p q h1 h2
      obtain ⟨hd, tl⟩ := List.pairwise_cons.mp asc
      rcases List.mem_cons.mp h1 with e1 | e1
      · rcases List.mem_cons.mp h2 with e2 | e2
        · rw [← e2] at e1
          exact congrArg Prod.snd e1
        · have := hd _ e2
          rw [← e1, ltS_irrefl] at this
          cases this
      · rcases List.mem_cons.mp h2 with e2 | e2
        · have := hd _ e1
          rw [← e2, ltS_irrefl] at this
          cases this
        · exact ih tl e1 e2
  exact key V.asc a b
theorem steps_asc (b : Bg) : ∀ {l : List (Str × Wo)}, ascW l → (stepsOf b l).Pairwise fun e f => WkI.ltS e.1 f.1 = true
  | [], _ => List.Pairwise.nil
  | e :: l, h => by
    obtain ⟨hd, tl⟩ := List.pairwise_cons.mp h
    have ih := steps_asc b tl
    have c : stepsOf b (e :: l) = (match Bg.fol b e.2 with | none => [] | some c => [(e.1, c)]) ++ stepsOf b l := by
      show List.filterMap _ (e :: l) = _
      rw [List.filterMap_cons]
      cases Bg.fol b e.2 with
      | none => rfl
      | some c => rfl
    rw [c]
    cases Bg.fol b e.2 with
    | none => exact ih
    | some c =>
      refine List.pairwise_cons.mpr ⟨fun f hf => ?_, ih⟩
      obtain ⟨x, hx, _⟩ := steps_mem hf
      exact hd _ hx
theorem steps_of_mem {b c : Bg} {l : List (Str × Wo)} {w : Str} {x : Wo} (h : (w, x) ∈ l) (hf : Bg.fol b x = some c) : (w, c) ∈ stepsOf b l :=
  List.mem_filterMap.mpr ⟨(w, x), h, by rw [hf]; rfl⟩
/-- a split of the ascending steps at a word -/
theorem split_at {st : List (Str × Bg)} {w : Str} {c : Bg} (asc : st.Pairwise fun e f => WkI.ltS e.1 f.1 = true) (h : (w, c) ∈ st) :
    ∃ pre post, st = pre ++ (w, c) :: post ∧ st.takeWhile (fun e => decide (e.1 ≠ w)) = pre ∧ (∀ b, nxt st b w = c) ∧ (∀ e ∈ pre, WkI.ltS e.1 w = true) ∧ ∀ e ∈ post, WkI.ltS w e.1 = true := by
  obtain ⟨pre, post, e⟩ := List.append_of_mem h
  subst e
  obtain ⟨a1, a2, a3⟩ := List.pairwise_append.mp asc
  obtain ⟨b1, b2⟩ := List.pairwise_cons.mp a2
  have p1 : ∀ e ∈ pre, WkI.ltS e.1 w = true := fun e he => a3 e he (w, c) List.mem_cons_self
  have ne : ∀ e ∈ pre, e.1 ≠ w := fun e he z => by
    have := p1 e he
    rw [z, ltS_irrefl] at this
    cases this
  refine ⟨pre, post, rfl, ?_, fun b => ?_, p1, b1⟩
  · rw [List.takeWhile_append_of_pos (fun e he => decide_eq_true (ne e he)), List.takeWhile_cons_of_neg (by simp), List.append_nil]
  · unfold nxt
    rw [List.find?_append, List.find?_eq_none.mpr (fun e he => by simpa using ne e he), List.find?_cons_of_pos (by simp)]
    rfl
/-- the hits of one number m -/
theorem hit_own {b : Bg} {m : Int} {k : Nat} (V : Voc ones tens hun scales ws) (ok : Bg.Ok b) (bm : b.m ≤ scales.length + 1) :
    Bg.cf (Bg.fb m m) b = Bg.own (Bg.fb m m) b + Bg.sumL (cfS (Bg.fb m m)) (stepsOf b ws) := steps_count ok bm V.all
theorem step_ok (V : Voc ones tens hun scales ws) {b : Bg} {e : Str × Bg} (ok : Bg.Ok b) (h : e ∈ stepsOf b ws) : Bg.Ok e.2 ∧ e.2.m ≤ b.m := by
  obtain ⟨x, hx, hf⟩ := steps_mem h
  exact ⟨Bg.fol_ok ok (Bg.all_ok (V.word hx).2) hf, Bg.fol_m hf⟩
theorem step_nneg (V : Voc ones tens hun scales ws) {b : Bg} {lo hi : Int} (ok : Bg.Ok b) : ∀ e ∈ stepsOf b ws, 0 ≤ cfS (Bg.fb lo hi) e := fun e he => Bg.cf_nonneg (step_ok V ok he).1
theorem hit_path (V : Voc ones tens hun scales ws) {m : Int} : ∀ (A : List Wo) {b c : Bg}, Bg.Ok b → b.m ≤ scales.length + 1 → (∀ x ∈ A, x ∈ Bg.all scales.length) → Bg.folL b A = some c → Bg.has c = true → c.t + c.g = m → 1 ≤ Bg.cf (Bg.fb m m) b
  | [], b, c, ok, bm, _, hf, hc, hm => by
    cases hf
    have s := Bg.sumL_nonneg _ (step_nneg V (lo := m) (hi := m) ok)
    have o := Bg.one_own (m := m) (b := b)
    rw [if_pos ⟨hc, hm⟩] at o
    have := hit_own (m := m) (k := 0) V ok bm
    omega
  | x :: A, b, c, ok, bm, hA, hf, hc, hm => by
    have hf' : (Bg.fol b x).bind (fun d => Bg.folL d A) = some c := hf
    cases hx : Bg.fol b x with
    | none =>
      rw [hx] at hf'
      cases hf'
    | some d =>
      rw [hx] at hf'
      have xa := hA x List.mem_cons_self
      have okd := Bg.fol_ok ok (Bg.all_ok xa) hx
      have ih := hit_path V A okd (Nat.le_trans (Bg.fol_m hx) bm) (fun y hy => hA y (List.mem_cons_of_mem _ hy)) hf' hc hm
      have mem := steps_of_mem (V.mem xa) hx
      have ge := Bg.sumL_ge (step_nneg V (lo := m) (hi := m) ok) _ mem
      have o0 := Bg.own_nonneg (b := b) (Int.le_refl m)
      have := hit_own (m := m) (k := 0) V ok bm
      have e : cfS (Bg.fb m m) (wd ones tens hun scales x, d) = Bg.cf (Bg.fb m m) d := rfl
      omega
/-- where the number m is not, nothing is counted -/
theorem plc_zero (V : Voc ones tens hun scales ws) {m : Int} : ∀ (B : List Wo) {b c : Bg} (acc : Int), Bg.Ok b → b.m ≤ scales.length + 1 → (∀ x ∈ B, x ∈ Bg.all scales.length) → Bg.folL b B = some c → Bg.cf (Bg.fb m m) b = 0 →
    plc (Bg.fb m m) ws b (B.map (wd ones tens hun scales)) acc = acc
  | [], _, _, _, _, _, _, _, _ => rfl
  | y :: B, b, c, acc, ok, bm, hB, hf, z => by
    have hf' : (Bg.fol b y).bind (fun d => Bg.folL d B) = some c := hf
    cases hy : Bg.fol b y with
    | none =>
      rw [hy] at hf'
      cases hf'
    | some d =>
      rw [hy] at hf'
      have ya := hB y List.mem_cons_self
      have okd := Bg.fol_ok ok (Bg.all_ok ya) hy
      obtain ⟨pre, post, es, e1, e2, _, _⟩ := split_at (steps_asc b V.asc) (steps_of_mem (V.mem ya) hy)
      have tot := hit_own (m := m) (k := 0) V ok bm
      have o0 := Bg.own_nonneg (b := b) (Int.le_refl m)
      have nn := step_nneg V (lo := m) (hi := m) ok
      rw [es, Bg.sumL_append] at tot
      rw [es] at nn
      have s1 := Bg.sumL_nonneg pre fun e he => nn e (List.mem_append_left _ he)
      have s2 := Bg.sumL_nonneg post fun e he => nn e (List.mem_append_right _ (List.mem_cons_of_mem _ he))
      have s3 := Bg.cf_nonneg (lo := m) (hi := m) okd
      have tot' : Bg.cf (Bg.fb m m) b = Bg.own (Bg.fb m m) b + (Bg.sumL (cfS (Bg.fb m m)) pre + (Bg.cf (Bg.fb m m) d + Bg.sumL (cfS (Bg.fb m m)) post)) := tot
      show plc (Bg.fb m m) ws (nxt (stepsOf b ws) b (wd ones tens hun scales y)) (B.map (wd ones tens hun scales)) (acc + Bg.own (Bg.fb m m) b + Bg.sumL (cfS (Bg.fb m m)) ((stepsOf b ws).takeWhile fun e => decide (e.1 ≠ wd ones tens hun scales y))) = acc
      rw [e1, e2, plc_zero V B _ okd (Nat.le_trans (Bg.fol_m hy) bm) (fun x hx => hB x (List.mem_cons_of_mem _ hx)) hf' (by omega)]
      omega
/-- the number m is counted ahead of the name B exactly if its own name A is less -/
theorem plc_one (V : Voc ones tens hun scales ws) {m : Int} : ∀ (B A : List Wo) {b c d : Bg} (acc : Int), Bg.Ok b → b.m ≤ scales.length + 1 → (∀ x ∈ B, x ∈ Bg.all scales.length) → (∀ x ∈ A, x ∈ Bg.all scales.length) → Bg.folL b B = some c →
    Bg.folL b A = some d → Bg.has d = true → d.t + d.g = m → Bg.cf (Bg.fb m m) b = 1 →
    plc (Bg.fb m m) ws b (B.map (wd ones tens hun scales)) acc = acc + if ltL (A.map (wd ones tens hun scales)) (B.map (wd ones tens hun scales)) = true then 1 else 0
  | [], A, _, _, _, acc, _, _, _, _, _, _, _, _, _ => by
    show acc = acc + if ltL _ [] = true then 1 else 0
    have : ltL (A.map (wd ones tens hun scales)) [] = false := by cases A <;> rfl
    rw [this, if_neg Bool.false_ne_true]
    omega
  | y :: B, A, b, c, d, acc, ok, bm, hB, hA, hf, hd, hh, hm, one => by
    have hf' : (Bg.fol b y).bind (fun d => Bg.folL d B) = some c := hf
    cases hy : Bg.fol b y with
    | none =>
      rw [hy] at hf'
      cases hf'
    | some z =>
      rw [hy] at hf'
      have ya := hB y List.mem_cons_self
      have okz := Bg.fol_ok ok (Bg.all_ok ya) hy
      have zm := Nat.le_trans (Bg.fol_m hy) bm
      have hB' : ∀ x ∈ B, x ∈ Bg.all scales.length := fun x hx => hB x (List.mem_cons_of_mem _ hx)
      obtain ⟨pre, post, es, e1, e2, lt1, lt2⟩ := split_at (steps_asc b V.asc) (steps_of_mem (V.mem ya) hy)
      have tot := hit_own (m := m) (k := 0) V ok bm
      have o0 := Bg.own_nonneg (b := b) (Int.le_refl m)
      have nn := step_nneg V (lo := m) (hi := m) ok
      rw [es, Bg.sumL_append] at tot
      rw [es] at nn
      have nn1 : ∀ e ∈ pre, 0 ≤ cfS (Bg.fb m m) e := fun e he => nn e (List.mem_append_left _ he)
      have nn2 : ∀ e ∈ post, 0 ≤ cfS (Bg.fb m m) e := fun e he => nn e (List.mem_append_right _ (List.mem_cons_of_mem _ he))
      have s1 := Bg.sumL_nonneg pre nn1
      have s2 := Bg.sumL_nonneg post nn2
      have s3 := Bg.cf_nonneg (lo := m) (hi := m) okz
      have tot' : Bg.cf (Bg.fb m m) b = Bg.own (Bg.fb m m) b + (Bg.sumL (cfS (Bg.fb m m)) pre + (Bg.cf (Bg.fb m m) z + Bg.sumL (cfS (Bg.fb m m)) post)) := tot
      show plc (Bg.fb m m) ws (nxt (stepsOf b ws) b (wd ones tens hun scales y)) (B.map (wd ones tens hun scales)) (acc + Bg.own (Bg.fb m m) b + Bg.sumL (cfS (Bg.fb m m)) ((stepsOf b ws).takeWhile fun e => decide (e.1 ≠ wd ones tens hun scales y))) = _
      rw [e1, e2]
      cases A with
      | nil =>
        cases hd
        have o := Bg.one_own (m := m) (b := b)
        rw [if_pos ⟨hh, hm⟩] at o
        rw [plc_zero V B _ okz zm hB' hf' (by omega)]
        show _ = acc + if ltL [] (_ :: _) = true then 1 else 0
        rw [show ltL [] (wd ones tens hun scales y :: List.map (wd ones tens hun scales) B) = true from rfl, if_pos rfl]
        omega
      | cons x A =>
        have hd' : (Bg.fol b x).bind (fun d => Bg.folL d A) = some d := hd
        cases hx : Bg.fol b x with
        | none =>
          rw [hx] at hd'
          cases hd'
        | some u =>
          rw [hx] at hd'
          have xa := hA x List.mem_cons_self
          have oku := Bg.fol_ok ok (Bg.all_ok xa) hx
          have um := Nat.le_trans (Bg.fol_m hx) bm
          have hA' : ∀ x ∈ A, x ∈ Bg.all scales.length := fun y hy => hA y (List.mem_cons_of_mem _ hy)
          have hu := hit_path V A oku um hA' hd' hh hm
          have mem := steps_of_mem (V.mem xa) hx
          rw [es] at mem
          have eu : cfS (Bg.fb m m) (wd ones tens hun scales x, u) = Bg.cf (Bg.fb m m) u := rfl
          show _ = acc + if ltL (wd ones tens hun scales x :: A.map (wd ones tens hun scales)) (wd ones tens hun scales y :: B.map (wd ones tens hun scales)) = true then 1 else 0
          have lt_eq : ltL (wd ones tens hun scales x :: A.map (wd ones tens hun scales)) (wd ones tens hun scales y :: B.map (wd ones tens hun scales)) = if WkI.ltS (wd ones tens hun scales x) (wd ones tens hun scales y) = true then true else if wd ones tens hun scales x = wd ones tens hun scales y then ltL (A.map (wd ones tens hun scales)) (B.map (wd ones tens hun scales)) else false := rfl
          rcases List.mem_append.mp mem with mem | mem
          · -- ahead
            have g := Bg.sumL_ge nn1 _ mem
            rw [lt_eq, if_pos (lt1 _ mem), if_pos rfl, plc_zero V B _ okz zm hB' hf' (by omega)]
            omega
          · rcases List.mem_cons.mp mem with e | mem
            · -- the same word
              have ew : wd ones tens hun scales x = wd ones tens hun scales y := congrArg Prod.fst e
              have ez : u = z := congrArg Prod.snd e
              subst ez
              rw [lt_eq, ew, ltS_irrefl, if_neg Bool.false_ne_true, if_pos rfl, plc_one V B A _ okz zm hB' hA' hf' hd' hh hm (by omega)]
              omega
            · have g := Bg.sumL_ge nn2 _ mem
              have l := lt2 _ mem
              have ne : wd ones tens hun scales x ≠ wd ones tens hun scales y := fun q => by
                rw [show wd ones tens hun scales x = wd ones tens hun scales y from q, ltS_irrefl] at l
                cases l
              rw [lt_eq, ltS_asym l, if_neg Bool.false_ne_true, if_neg ne, if_neg Bool.false_ne_true, plc_zero V B _ okz zm hB' hf' (by omega)]
              omega
theorem sumL_add {α : Type} (f g : α → Int) : ∀ l : List α, Bg.sumL (fun x => f x + g x) l = Bg.sumL f l + Bg.sumL g l
  | [] => rfl
  | x :: l => by
    show f x + g x + Bg.sumL (fun x => f x + g x) l = f x + Bg.sumL f l + (g x + Bg.sumL g l)
    rw [sumL_add f g l]
    omega
theorem plc_add (F G : Int → Int) (ws : List (Str × Wo)) : ∀ (xs : List Str) (b : Bg) (p q : Int), plc (fun x => F x + G x) ws b xs (p + q) = plc F ws b xs p + plc G ws b xs q
  | [], _, _, _ => rfl
  | x :: xs, b, p, q => by
    show plc (fun x => F x + G x) ws (nxt (stepsOf b ws) b x) xs (p + q + Bg.own (fun x => F x + G x) b + Bg.sumL (cfS fun x => F x + G x) ((stepsOf b ws).takeWhile fun e => decide (e.1 ≠ x))) =
      plc F ws (nxt (stepsOf b ws) b x) xs (p + Bg.own F b + Bg.sumL (cfS F) ((stepsOf b ws).takeWhile fun e => decide (e.1 ≠ x))) + plc G ws (nxt (stepsOf b ws) b x) xs (q + Bg.own G b + Bg.sumL (cfS G) ((stepsOf b ws).takeWhile fun e => decide (e.1 ≠ x)))
    rw [← plc_add F G ws xs]
    congr 1
    have e : (cfS fun x => F x + G x) = fun e => cfS F e + cfS G e := by
      funext e
      exact Bg.cf_add F G e.2
    rw [e, sumL_add, Bg.own_add]
    omega
theorem plc_null (ws : List (Str × Wo)) : ∀ (xs : List Str) (b : Bg) (p : Int), plc (fun _ => 0) ws b xs p = p
  | [], _, _ => rfl
  | x :: xs, b, p => by
    have c0 : ∀ b : Bg, Bg.cf (fun _ => 0) b = 0 := fun b => by
      unfold Bg.cf
      split
      · rfl
      · refine (Bg.sumR_congr b.m fun j _ => ?_).trans (Bg.sumR_zero b.m)
        unfold Bg.cj
        split <;> rfl
    show plc (fun _ => 0) ws _ xs (p + Bg.own (fun _ => 0) b + Bg.sumL (cfS fun _ => 0) _) = p
    rw [plc_null ws xs, Bg.sumL_zero _ (fun e _ => c0 e.2)]
    unfold Bg.own
    split <;> simp
theorem plc_sum (f : Nat → Int → Int) (ws : List (Str × Wo)) (xs : List Str) (b : Bg) : ∀ n, plc (fun x => Bg.sumR (fun i => f i x) n) ws b xs 0 = Bg.sumR (fun i => plc (f i) ws b xs 0) n
  | 0 => plc_null ws xs b 0
  | n + 1 => by
    show plc (fun x => Bg.sumR (fun i => f i x) n + f n x) ws b xs (0 + 0) = Bg.sumR (fun i => plc (f i) ws b xs 0) n + plc (f n) ws b xs 0
    rw [plc_add, plc_sum f ws xs b n]
/-- the name of a number as a list of words -/
def nmL (ones tens : List Str) (hun : Str) (scales : List Str) (n : Int) : List Str := (Bg.nameW n (scales.length + 1)).map (wd ones tens hun scales)
/-- the numbers of a range that come before n -/
def ahead (ones tens : List Str) (hun : Str) (scales : List Str) (lo hi n : Int) : Int :=
  Bg.sumR (fun i => if ltL (nmL ones tens hun scales (lo + (i : Int))) (nmL ones tens hun scales n) = true then 1 else 0) (hi - lo + 1).toNat
/-- THE PLACE: the program's count is the number of numbers of the range that come before -/
theorem place_is (V : Voc ones tens hun scales ws) {lo hi n : Int} (lo0 : 0 ≤ lo) (lh : lo ≤ hi) (h1 : hi < Bg.W (scales.length + 1)) (n0 : 0 ≤ n) (n1 : n < Bg.W (scales.length + 1)) :
    plc (Bg.fb lo hi) ws (Bg.start scales.length) ((Bg.nameW n (scales.length + 1)).map (wd ones tens hun scales)) 0 = ahead ones tens hun scales lo hi n := by
  have e := Bg.fb_sum lo (hi - lo + 1).toNat
  rw [show lo + (((hi - lo + 1).toNat : Nat) : Int) - 1 = hi by omega] at e
  rw [show Bg.fb lo hi = fun x => Bg.fb lo hi x from rfl, e, plc_sum]
  unfold ahead
  refine Bg.sumR_congr _ fun i hi' => ?_
  have m0 : 0 ≤ lo + (i : Int) := by omega
  have m1 : lo + (i : Int) < Bg.W (scales.length + 1) := by omega
  obtain ⟨c, c1, c2, c3⟩ := Bg.name_path n0 n1
  obtain ⟨d, d1, d2, d3⟩ := Bg.name_path m0 m1
  have one := Bg.start_all (k := scales.length) m0 (Int.le_refl _) m1
  rw [plc_one V _ _ 0 (Bg.start_ok _) (Nat.le_refl _) Bg.name_all Bg.name_all c1 d1 d2 d3 (by omega)]
  show 0 + _ = _
  rw [Int.zero_add]
  rfl
end
end LB
set_option Elab.async false
set_option linter.all false
set_option maxRecDepth 100000
set_option maxHeartbeats 4000000
/-! The number at a place; what places of ranges do; names as texts. -/
namespace LB
open PySem L2 Wk
open Bg (Bg Wo)
section
variable {ones tens : List Str} {hun : Str} {scales : List Str} {ws : List (Str × Wo)}
/-- the path to the number that is found -/
theorem numAt_path (V : Voc ones tens hun scales ws) {F : Int → Int} {b : Bg} {left r : Int} (h : NumAt F ws b left r) : Bg.Ok b → ∃ (A : List Wo) (c : Bg), (∀ x ∈ A, x ∈ Bg.all scales.length) ∧ Bg.folL b A = some c ∧ c.t + c.g = r ∧ Bg.own F c = 1 ∧
    ∀ acc, plc F ws b (A.map (wd ones tens hun scales)) acc = acc + left := by
  induction h with
  | @own b h =>
    intro _
    exact ⟨[], b, (fun x hx => nomatch hx), rfl, rfl, h, fun acc => by show acc = acc + 0; omega⟩
  | @step b c x left r pre post es h0 h1 _ ih =>
    intro ok
    have mem : (x, c) ∈ stepsOf b ws := by rw [es]; exact List.mem_append_right _ List.mem_cons_self
    obtain ⟨w, hw, hf⟩ := steps_mem mem
    obtain ⟨ew, wa⟩ := V.word hw
    obtain ⟨A, d, a1, a2, a3, a4, a5⟩ := ih (Bg.fol_ok ok (Bg.all_ok wa) hf)
    refine ⟨w :: A, d, fun y hy => ?_, ?_, a3, a4, fun acc => ?_⟩
    · rcases List.mem_cons.mp hy with rfl | hy
      · exact wa
      · exact a1 y hy
    · rw [Bg.folL_one hf]
      exact a2
    · obtain ⟨pre', post', es', e1, e2, lt1, _⟩ := split_at (steps_asc b V.asc) mem
      have asc := steps_asc b V.asc
      have e3 : (stepsOf b ws).takeWhile (fun e => decide (e.1 ≠ x)) = pre := by
        rw [es] at asc ⊢
        obtain ⟨_, _, q3⟩ := List.pairwise_append.mp asc
        have ne : ∀ e ∈ pre, (fun e : Str × Bg => decide (e.1 ≠ x)) e = true := fun e he => decide_eq_true fun z => by
          have := q3 e he (x, c) List.mem_cons_self
          rw [z, ltS_irrefl] at this
          cases this
        rw [List.takeWhile_append_of_pos ne, List.takeWhile_cons_of_neg (by simp), List.append_nil]
      have ew' : x = wd ones tens hun scales w := ew
      show plc F ws (nxt (stepsOf b ws) b (wd ones tens hun scales w)) (A.map (wd ones tens hun scales)) (acc + Bg.own F b + Bg.sumL (cfS F) ((stepsOf b ws).takeWhile fun e => decide (e.1 ≠ wd ones tens hun scales w))) = acc + left
      rw [← ew', e2, e3, a5]
      omega
/-- two paths to one number are one -/
theorem path_words (V : Voc ones tens hun scales ws) {m : Int} {A B : List Wo} {b c d : Bg} (ok : Bg.Ok b) (bm : b.m ≤ scales.length + 1) (hA : ∀ x ∈ A, x ∈ Bg.all scales.length) (hB : ∀ x ∈ B, x ∈ Bg.all scales.length)
    (fA : Bg.folL b A = some c) (fB : Bg.folL b B = some d) (hc : Bg.has c = true) (hd : Bg.has d = true) (nc : c.t + c.g = m) (nd : d.t + d.g = m) (one : Bg.cf (Bg.fb m m) b = 1) : A.map (wd ones tens hun scales) = B.map (wd ones tens hun scales) := by
  have h1 := plc_one V B A 0 ok bm hB hA fB fA hc nc one
  have h2 := plc_one V B B 0 ok bm hB hB fB fB hd nd one
  have h3 := plc_one V A B 0 ok bm hA hB fA fB hd nd one
  have h4 := plc_one V A A 0 ok bm hA hA fA fA hc nc one
  rw [ltL_irrefl, if_neg Bool.false_ne_true] at h2 h4
  refine ltL_tri ?_ ?_
  · rw [h2] at h1
    cases q : ltL (A.map (wd ones tens hun scales)) (B.map (wd ones tens hun scales)) with
    | false => rfl
    | true =>
      rw [q, if_pos rfl] at h1
      omega
  · rw [h4] at h3
    cases q : ltL (B.map (wd ones tens hun scales)) (A.map (wd ones tens hun scales)) with
    | false => rfl
    | true =>
      rw [q, if_pos rfl] at h3
      omega
theorem has_of_own {F : Int → Int} {c : Bg} (h : Bg.own F c = 1) : Bg.has c = true := by
  unfold Bg.own at h
  cases e : Bg.has c with
  | true => rfl
  | false =>
    rw [e, if_neg Bool.false_ne_true] at h
    cases h
/-- THE NUMBER AT A PLACE: it is of the range, and so many come before it -/
theorem number_is (V : Voc ones tens hun scales ws) {lo hi p r : Int} (lo0 : 0 ≤ lo) (lh : lo ≤ hi) (h1 : hi < Bg.W (scales.length + 1)) (h : NumAt (Bg.fb lo hi) ws (Bg.start scales.length) p r) :
    lo ≤ r ∧ r ≤ hi ∧ ahead ones tens hun scales lo hi r = p := by
  obtain ⟨A, c, a1, a2, a3, a4, a5⟩ := numAt_path V h (Bg.start_ok _)
  have hc := has_of_own a4
  rw [Bg.own_code lh, a3, hc, Bool.true_and] at a4
  have rng : lo ≤ r ∧ r ≤ hi := by
    by_cases q : (decide (lo ≤ r) && decide (r ≤ hi)) = true
    · rw [Bool.and_eq_true, decide_eq_true_eq, decide_eq_true_eq] at q
      exact q
    · rw [if_neg q] at a4
      cases a4
  have r0 : 0 ≤ r := by omega
  have r1 : r < Bg.W (scales.length + 1) := by omega
  obtain ⟨d, d1, d2, d3⟩ := Bg.name_path r0 r1
  have one := Bg.start_all (k := scales.length) r0 (Int.le_refl _) r1
  have e := path_words V (Bg.start_ok _) (Nat.le_refl _) a1 Bg.name_all a2 d1 hc d2 a3 d3 (by omega)
  refine ⟨rng.1, rng.2, ?_⟩
  have z := a5 0
  rw [e, place_is V lo0 lh h1 r0 r1, Int.zero_add] at z
  exact z
/-- a name is that of one number alone -/
theorem name_inj (V : Voc ones tens hun scales ws) {m n : Int} (m0 : 0 ≤ m) (m1 : m < Bg.W (scales.length + 1)) (n0 : 0 ≤ n) (n1 : n < Bg.W (scales.length + 1)) (h : nmL ones tens hun scales m = nmL ones tens hun scales n) : m = n := by
  have inj : ∀ {A B : List Wo}, (∀ x ∈ A, x ∈ Bg.all scales.length) → (∀ x ∈ B, x ∈ Bg.all scales.length) → A.map (wd ones tens hun scales) = B.map (wd ones tens hun scales) → A = B := by
    intro A
    induction A with
    | nil =>
      intro B _ _ h
      cases B with
      | nil => rfl
      | cons _ _ => cases h
    | cons x A ih =>
      intro B hA hB h
      cases B with
      | nil => cases h
      | cons y B =>
        rw [List.map_cons, List.map_cons] at h
        obtain ⟨h1, h2⟩ := List.cons.inj h
        rw [V.inj (hA x List.mem_cons_self) (hB y List.mem_cons_self) h1, ih (fun z hz => hA z (List.mem_cons_of_mem _ hz)) (fun z hz => hB z (List.mem_cons_of_mem _ hz)) h2]
  have e := inj Bg.name_all Bg.name_all h
  obtain ⟨c, c1, _, c3⟩ := Bg.name_path m0 m1
  obtain ⟨d, d1, _, d3⟩ := Bg.name_path n0 n1
  rw [e, d1] at c1
  cases c1
  omega
end
/-! ### what places do -/
section
variable (ones tens : List Str) (hun : Str) (scales : List Str)
def less (m n : Int) : Bool := ltL (nmL ones tens hun scales m) (nmL ones tens hun scales n)
theorem ahead_nneg (lo hi n : Int) : 0 ≤ ahead ones tens hun scales lo hi n := Bg.sumR_nonneg _ fun j _ => by split <;> decide
theorem sumR_le {f g : Nat → Int} : ∀ n, (∀ j, j < n → f j ≤ g j) → Bg.sumR f n ≤ Bg.sumR g n
  | 0, _ => Int.le_refl 0
  | n + 1, h => by
    have a := sumR_le n fun j hj => h j (Nat.lt_succ_of_lt hj)
    have b := h n (Nat.lt_succ_self n)
    show Bg.sumR f n + f n ≤ Bg.sumR g n + g n
    omega
theorem sumR_lt {f g : Nat → Int} : ∀ n, (∀ j, j < n → f j ≤ g j) → ∀ i, i < n → f i < g i → Bg.sumR f n < Bg.sumR g n
  | n + 1, h, i, hi, lt => by
    have a := sumR_le n fun j hj => h j (Nat.lt_succ_of_lt hj)
    have b := h n (Nat.lt_succ_self n)
    show Bg.sumR f n + f n < Bg.sumR g n + g n
    by_cases e : i = n
    · subst e
      omega
    · have := sumR_lt n (fun j hj => h j (Nat.lt_succ_of_lt hj)) i (by omega) lt
      omega
theorem sumR_one : ∀ n, Bg.sumR (fun _ => 1) n = (n : Int)
  | 0 => rfl
  | n + 1 => by
    show Bg.sumR (fun _ => 1) n + 1 = _
    rw [sumR_one n]
    omega
theorem ahead_le {lo hi n : Int} (h : lo ≤ hi + 1) : ahead ones tens hun scales lo hi n ≤ hi - lo + 1 := by
  unfold ahead
  have := sumR_le (f := fun i : Nat => if ltL (nmL ones tens hun scales (lo + (i : Int))) (nmL ones tens hun scales n) = true then (1 : Int) else 0) (g := fun _ => 1) (hi - lo + 1).toNat fun j _ => by split <;> decide
  rw [sumR_one] at this
  omega
theorem ahead_in {lo hi n : Int} (h1 : lo ≤ n) (h2 : n ≤ hi) : ahead ones tens hun scales lo hi n ≤ hi - lo := by
  unfold ahead
  have := sumR_lt (f := fun i : Nat => if ltL (nmL ones tens hun scales (lo + (i : Int))) (nmL ones tens hun scales n) = true then (1 : Int) else 0) (g := fun _ => 1) (hi - lo + 1).toNat (fun j _ => by split <;> decide) (n - lo).toNat (by omega) (by
    rw [show lo + (((n - lo).toNat : Nat) : Int) = n by omega, ltL_irrefl]
    decide)
  rw [sumR_one] at this
  omega
theorem ahead_mono {lo hi a b : Int} (h : ltL (nmL ones tens hun scales b) (nmL ones tens hun scales a) = false) : ahead ones tens hun scales lo hi a ≤ ahead ones tens hun scales lo hi b := by
  unfold ahead
  refine sumR_le _ fun j _ => ?_
  by_cases c : ltL (nmL ones tens hun scales (lo + (j : Int))) (nmL ones tens hun scales a) = true
  · by_cases d : ltL (nmL ones tens hun scales (lo + (j : Int))) (nmL ones tens hun scales b) = true
    · rw [if_pos c, if_pos d]
      exact Int.le_refl _
    · exfalso
      cases q : ltL (nmL ones tens hun scales b) (nmL ones tens hun scales (lo + (j : Int))) with
      | true =>
        rw [ltL_trans q c] at h
        cases h
      | false =>
        have e := ltL_tri (by simpa using d) q
        rw [e] at c
        rw [h] at c
        cases c
  · rw [if_neg c]
    split <;> decide
theorem ahead_lt {lo hi a b : Int} (h1 : lo ≤ a) (h2 : a ≤ hi) (h : ltL (nmL ones tens hun scales a) (nmL ones tens hun scales b) = true) : ahead ones tens hun scales lo hi a < ahead ones tens hun scales lo hi b := by
  unfold ahead
  refine sumR_lt _ (fun j _ => ?_) (a - lo).toNat (by omega) ?_
  · by_cases c : ltL (nmL ones tens hun scales (lo + (j : Int))) (nmL ones tens hun scales a) = true
    · rw [if_pos c, if_pos (ltL_trans c h)]
      exact Int.le_refl _
    · rw [if_neg c]
      split <;> decide
  · rw [show lo + (((a - lo).toNat : Nat) : Int) = a by omega, ltL_irrefl, h]
    decide
theorem ahead_add {lo hi n : Int} (h : lo ≤ hi + 1) : ahead ones tens hun scales lo (hi + 1) n = ahead ones tens hun scales lo hi n + if ltL (nmL ones tens hun scales (hi + 1)) (nmL ones tens hun scales n) = true then 1 else 0 := by
  unfold ahead
  rw [show (hi + 1 - lo + 1).toNat = (hi - lo + 1).toNat + 1 by omega]
  show _ + (if ltL (nmL ones tens hun scales (lo + (((hi - lo + 1).toNat : Nat) : Int))) (nmL ones tens hun scales n) = true then (1 : Int) else 0) = _
  rw [show lo + (((hi - lo + 1).toNat : Nat) : Int) = hi + 1 by omega]
theorem ahead_grow {lo hi n : Int} : ∀ d : Nat, lo ≤ hi + 1 → ahead ones tens hun scales lo hi n ≤ ahead ones tens hun scales lo (hi + (d : Int)) n
  | 0, _ => by
    rw [show hi + ((0 : Nat) : Int) = hi by omega]
    exact Int.le_refl _
  | d + 1, h => by
    have ih := ahead_grow (n := n) d h
    rw [show hi + ((d + 1 : Nat) : Int) = hi + (d : Int) + 1 by omega, ahead_add ones tens hun scales (by omega)]
    split <;> omega
theorem ahead_cut {lo cut n : Int} : ∀ d : Nat, lo ≤ cut + 1 → ahead ones tens hun scales lo (cut + (d : Int)) n = ahead ones tens hun scales lo cut n + ahead ones tens hun scales (cut + 1) (cut + (d : Int)) n
  | 0, _ => by
    rw [show cut + ((0 : Nat) : Int) = cut by omega]
    unfold ahead
    rw [show (cut - (cut + 1) + 1).toNat = 0 by omega]
    show _ = _ + (0 : Int)
    omega
  | d + 1, h => by
    have ih := ahead_cut (n := n) d h
    rw [show cut + ((d + 1 : Nat) : Int) = cut + (d : Int) + 1 by omega, ahead_add ones tens hun scales (by omega), ahead_add ones tens hun scales (by omega), ih]
    omega
end
/-! ### names as texts -/
def jl : List (List Nat) → List Nat
  | [] => []
  | [x] => x
  | x :: y :: r => x ++ 32 :: jl (y :: r)
theorem glued_jl (xs : List Str) : (Txt.join " " xs).cps.toList = jl (xs.map fun x => x.cps.toList) := by
  have fold : ∀ (l : List Str) (acc : Array Nat), (l.foldl (fun acc p => acc ++ (" " : Str).cps ++ p.cps) acc).toList = acc.toList ++ (l.map fun x => 32 :: x.cps.toList).flatten := by
    intro l
    induction l with
    | nil =>
      intro acc
      simp
    | cons x l ih =>
      intro acc
      rw [List.foldl_cons, ih]
      have : (" " : Str).cps.toList = [32] := by decide +kernel
      simp [this]
  have flat : ∀ (x : List Nat) (l : List Str), x ++ (l.map fun x => 32 :: x.cps.toList).flatten = jl (x :: l.map fun x => x.cps.toList) := by
    intro x l
    induction l generalizing x with
    | nil => simp [jl]
    | cons y l ih =>
      show x ++ (32 :: y.cps.toList ++ (l.map fun x => 32 :: x.cps.toList).flatten) = x ++ 32 :: jl (y.cps.toList :: l.map fun x => x.cps.toList)
      rw [← ih y.cps.toList]
      rfl
  show (⟨(xs.drop 1).foldl (fun acc p => acc ++ (" " : Str).cps ++ p.cps) (xs.headD Str.empty).cps⟩ : Str).cps.toList = _
  show ((xs.drop 1).foldl (fun acc p => acc ++ (" " : Str).cps ++ p.cps) (xs.headD Str.empty).cps).toList = _
  rw [fold]
  cases xs with
  | nil => rfl
  | cons x l => exact flat x.cps.toList l
/-- words behind which something smaller or nothing stands: they are compared as words -/
theorem lt_words : ∀ {x y s t : List Nat}, (∀ c ∈ x, 32 < c) → (∀ c ∈ y, 32 < c) → (s = [] ∨ ∃ r, s = 32 :: r) → (t = [] ∨ ∃ r, t = 32 :: r) → x ≠ y → (x ++ s < y ++ t ↔ x < y)
  | [], [], _, _, _, _, _, _, ne => absurd rfl ne
  | [], b :: y, s, t, _, hy, hs, _, _ => by
    have hb := hy b List.mem_cons_self
    constructor
    · intro _
      exact List.nil_lt_cons b y
    · intro _
      rcases hs with rfl | ⟨r, rfl⟩
      · exact List.nil_lt_cons b (y ++ t)
      · exact List.cons_lt_cons_iff.mpr (.inl hb)
  | a :: x, [], s, t, hx, _, _, ht, _ => by
    have ha := hx a List.mem_cons_self
    constructor
    · intro h
      rcases ht with rfl | ⟨r, rfl⟩
      · exact absurd h (List.not_lt_nil _)
      · rcases List.cons_lt_cons_iff.mp h with z | ⟨z, _⟩ <;> omega
    · intro h
      exact absurd h (List.not_lt_nil _)
  | a :: x, b :: y, s, t, hx, hy, hs, ht, ne => by
    have ih : x ≠ y → (x ++ s < y ++ t ↔ x < y) := lt_words (fun c hc => hx c (List.mem_cons_of_mem _ hc)) (fun c hc => hy c (List.mem_cons_of_mem _ hc)) hs ht
    show a :: (x ++ s) < b :: (y ++ t) ↔ a :: x < b :: y
    rw [List.cons_lt_cons_iff, List.cons_lt_cons_iff]
    by_cases e : a = b
    · subst e
      have := ih fun z => ne (by rw [z])
      rw [this]
    · simp [e]
theorem lt_same : ∀ {x s t : List Nat}, (x ++ s < x ++ t ↔ s < t)
  | [], _, _ => Iff.rfl
  | a :: x, s, t => by
    show a :: (x ++ s) < a :: (x ++ t) ↔ s < t
    rw [List.cons_lt_cons_iff, lt_same (x := x)]
    constructor
    · rintro (h | ⟨_, h⟩)
      · omega
      · exact h
    · intro h
      exact .inr ⟨rfl, h⟩
theorem jl_cons (x : List Nat) (l : List (List Nat)) : ∃ s, jl (x :: l) = x ++ s ∧ ((l = [] ∧ s = []) ∨ (l ≠ [] ∧ s = 32 :: jl l)) := by
  cases l with
  | nil => exact ⟨[], by simp [jl], .inl ⟨rfl, rfl⟩⟩
  | cons y r => exact ⟨32 :: jl (y :: r), rfl, .inr ⟨by simp, rfl⟩⟩
/-- names as texts stand in the order of their lists of words -/
theorem name_lt : ∀ {a b : List Str}, (∀ x ∈ a, GoodWord x) → (∀ x ∈ b, GoodWord x) → b ≠ [] → a ≠ [] → decide ((Txt.join " " a).cps.toList < (Txt.join " " b).cps.toList) = ltL a b := by
  intro a
  induction a with
  | nil => intro b _ _ _ h; exact absurd rfl h
  | cons x a ih =>
    intro b ha hb hbn _
    cases b with
    | nil => exact absurd rfl hbn
    | cons y b =>
      rw [glued_jl, glued_jl, List.map_cons, List.map_cons]
      obtain ⟨s, es, hs⟩ := jl_cons x.cps.toList (a.map fun x => x.cps.toList)
      obtain ⟨t, et, ht⟩ := jl_cons y.cps.toList (b.map fun x => x.cps.toList)
      rw [es, et]
      have gx := ha x List.mem_cons_self
      have gy := hb y List.mem_cons_self
      have sx : ∀ c ∈ x.cps.toList, 32 < c := fun c hc => by have := (gx.2.2 c hc).1; omega
      have sy : ∀ c ∈ y.cps.toList, 32 < c := fun c hc => by have := (gy.2.2 c hc).1; omega
      show _ = if WkI.ltS x y = true then true else if x = y then ltL a b else false
      by_cases e : x = y
      · subst e
        rw [ltS_irrefl, if_neg Bool.false_ne_true, if_pos rfl]
        have q : decide (x.cps.toList ++ s < x.cps.toList ++ t) = decide (s < t) := decide_eq_decide.mpr lt_same
        rw [q]
        rcases hs with ⟨ea, rfl⟩ | ⟨ea, rfl⟩
        · have a0 : a = [] := by simpa using ea
          subst a0
          rcases ht with ⟨eb, rfl⟩ | ⟨eb, rfl⟩
          · have b0 : b = [] := by simpa using eb
            subst b0
            exact decide_eq_false (List.lt_irrefl _)
          · cases b with
            | nil => exact absurd rfl eb
            | cons z b => exact decide_eq_true (List.nil_lt_cons _ _)
        · have a0 : a ≠ [] := by simpa using ea
          rcases ht with ⟨eb, rfl⟩ | ⟨eb, rfl⟩
          · have b0 : b = [] := by simpa using eb
            subst b0
            have z : ltL a [] = false := by cases a <;> rfl
            rw [z]
            exact decide_eq_false (List.not_lt_nil _)
          · have b0 : b ≠ [] := by simpa using eb
            have i := ih (b := b) (fun x hx => ha x (List.mem_cons_of_mem _ hx)) (fun x hx => hb x (List.mem_cons_of_mem _ hx)) b0 a0
            rw [glued_jl, glued_jl] at i
            rw [← i]
            refine decide_eq_decide.mpr ?_
            rw [List.cons_lt_cons_iff]
            constructor
            · rintro (h | ⟨_, h⟩)
              · omega
              · exact h
            · intro h
              exact .inr ⟨rfl, h⟩
      · have ne : x.cps.toList ≠ y.cps.toList := fun z => e (by
          obtain ⟨⟨l⟩⟩ := x
          obtain ⟨⟨m⟩⟩ := y
          have z' : l = m := z
          rw [z'])
        have q : decide (x.cps.toList ++ s < y.cps.toList ++ t) = decide (x.cps.toList < y.cps.toList) := decide_eq_decide.mpr (lt_words sx sy (hs.imp (·.2) fun h => ⟨_, h.2⟩) (ht.imp (·.2) fun h => ⟨_, h.2⟩) ne)
        rw [q, if_neg e]
        show WkI.ltS x y = _
        cases WkI.ltS x y <;> rfl
end LB
set_option Elab.async false
set_option linter.all false
set_option maxRecDepth 100000
set_option maxHeartbeats 4000000
/-! A def with one default, None: what the top has written of it, how calls bind. -/
namespace LB
open PySem L2 Wk
/-- a def of the module, its last parameter with the default None -/
def DefD (K : PySem.W.Frag) (x : Str) (st : Stmt) (f : Addr) : Prop := PySem.W.nsIn K mainGlobals x = some (some (.ref f)) ∧
  (∃ (oc : Value) (od : Option Addr) (T : Addr) (kV doc pm : Value) (an : Option Addr) (cdv ct : Value) (osl : Array (Option Value)),
    K.lookup f = some ⟨oc, od, .func (PySem.W.fnOf x x (defArgs st) (defBody st) (defScope st) (.ref T) kV doc pm an cdv ct), osl⟩ ∧ PySem.W.codeIn K cdv x = true ∧ ∃ (oT : Obj) (n : Nat), K.lookup T = some oT ∧ oT.data = .seq #[.none] n) ∧ PySem.W.keepIn K (.ref f) = true
theorem DefD.fun {K : PySem.W.Frag} {x : Str} {st : Stmt} {f : Addr} (h : DefD K x st f) : ∃ fd, FunD K x x (defArgs st) (defBody st) (defScope st) [.non] [] f fd := by
  obtain ⟨_, ⟨oc, od, T, kV, doc, pm, an, cdv, ct, osl, l, c, oT, n, lT, dT⟩, kp⟩ := h
  exact ⟨_, ⟨oc, od, .ref T, kV, doc, pm, an, cdv, ct, osl, rfl, l, c, .inr ⟨by simp, T, oT, [.none], n, rfl, lT, dT, .cons rfl .nil⟩, .inl rfl⟩, kp⟩
/-- how its calls bind -/
structure Bind3 (K : PySem.W.Frag) (fd : FuncData) (ps ks : List Str) : Prop where
  b3 : Binds K fd ps []
  b2 : ∃ dn, Vals [V.non] [dn] ∧ Binds K fd ps [dn]
  kw : KBn K fd ps 0 ks (fun _ ws => [ws.getD 2 .none, ws.getD 1 .none, ws.getD 0 .none]) (fun _ zs => [zs.getD 2 .non, zs.getD 1 .non, zs.getD 0 .non])
theorem bind3 {K : PySem.W.Frag} {x : Str} {st : Stmt} {f : Addr} {fd : FuncData} {a b c : Str} (F : FunD K x x (defArgs st) (defBody st) (defScope st) [.non] [] f fd)
    (h3 : ∀ (T : Addr) (kV doc pm : Value) (an : Option Addr) (cdv ct : Value) (u v w d : Value),
      ∃ k, bindArgs (PySem.W.fnOf x x (defArgs st) (defBody st) (defScope st) (.ref T) kV doc pm an cdv ct) ⟨[u, v, w], []⟩ = seqItems? (.ref T) >>= k ∧ k (some #[d]) = pure (([a, b, c] : List Str).zip [u, v, w]))
    (h2 : ∀ (T : Addr) (kV doc pm : Value) (an : Option Addr) (cdv ct : Value) (u v d : Value),
      ∃ k, bindArgs (PySem.W.fnOf x x (defArgs st) (defBody st) (defScope st) (.ref T) kV doc pm an cdv ct) ⟨[u, v], []⟩ = seqItems? (.ref T) >>= k ∧ k (some #[d]) = pure (([a, b, c] : List Str).zip [u, v, d]))
    (hk : ∀ (T : Addr) (kV doc pm : Value) (an : Option Addr) (cdv ct : Value) (u v w d : Value),
      ∃ k, bindArgs (PySem.W.fnOf x x (defArgs st) (defBody st) (defScope st) (.ref T) kV doc pm an cdv ct) ⟨[], ([c, b, a] : List Str).zip [u, v, w]⟩ = seqItems? (.ref T) >>= k ∧ k (some #[d]) = pure (([a, b, c] : List Str).zip [w, v, u])) :
    Bind3 K fd [a, b, c] [c, b, a] := by
  refine ⟨?_, ?_, ?_⟩
  · obtain ⟨ds, r, q⟩ := F.binds1 (ps := [a, b, c]) 3 1 (by simp) rfl fun T kV doc pm an cdv ct us its h1 h4 => match us, its, h1, h4 with
      | [u, v, w], [d], _, _ => h3 T kV doc pm an cdv ct u v w d
    cases r
    exact q
  · obtain ⟨ds, r, q⟩ := F.binds1 (ps := [a, b, c]) 2 0 (by simp) rfl fun T kV doc pm an cdv ct us its h1 h4 => match us, its, h1, h4 with
      | [u, v], [d], _, _ => h2 T kV doc pm an cdv ct u v d
    cases r with
    | cons r1 r2 =>
      cases r2
      exact ⟨_, .cons r1 .nil, q⟩
  · obtain ⟨oc, od, dV, kV, doc, pm, an, cdv, ct, osl, rfl, lk, hcd, hD, hK⟩ := F.ex
    rcases hD with ⟨e, _⟩ | ⟨_, T, o, its, m, rfl, lT, oT, rT⟩
    · cases e
    · refine ⟨fun s us ws X e1 e2 => ?_, fun {vs us zs ws} r1 r2 => ?_⟩
      · match us, ws, its, e1, e2, rT, oT with
        | [], [u, v, w], [d], _, _, _, oT =>
          obtain ⟨k, q1, q2⟩ := hk T kV doc pm an cdv ct u v w d
          refine BindsTo.of_looks fun M => ?_
          rw [q1]
          exact looks_items X lT oT (.of_pure q2)
      · have at_ : ∀ j, RelV (zs.getD j .non) (ws.getD j .none) := by
          intro j
          induction r2 generalizing j with
          | nil => rfl
          | cons h _ ih =>
            cases j with
            | zero => exact h
            | succ j => exact ih j
        exact .cons (at_ 2) (.cons (at_ 1) (.cons (at_ 0) .nil))
end LB
set_option Elab.async false
set_option linter.all false
set_option maxRecDepth 100000
set_option maxHeartbeats 4000000
/-! The program's own: from what the top has written to the promises. -/
namespace LB
open PySem L2 Wk
open Bg (Bg Wo)
section
variable {P : Program} {w : World} {K : PySem.W.Frag} {mg : Str → Option Value} {base h : Heap}
theorem def1_mk {x : Str} {st : Stmt} {f : Addr} {ps : List Str} {k : Nat} {sp : Sp} (X : K.In h) (G : h.Ns mainGlobals mg) (a : DefAt K x st f)
    (b : ∀ (kV doc pm : Value) (an : Option Addr) (cdv ct : Value) (us : List Value), us.length = ps.length → bindArgs (PySem.W.fnOf x x (defArgs st) (defBody st) (defScope st) .none kV doc pm an cdv ct) ⟨us, []⟩ = pure (ps.zip us))
    (ok : ∀ fd, Fun K x x st f fd → FnOk P w K mg base CX0 k f fd ps sp) : ∃ fd, Def1 P w K mg base x k f fd ps sp := by
  obtain ⟨n, ⟨oc, od, kV, doc, pm, an, cdv, ct, osl, l, c⟩, kp⟩ := a
  have F := fun_mk (st := st) l c kp
  exact ⟨_, ok _ F, PySem.W.mg_of X G n, kp, F.binds b⟩
/-- the tuple ZERO of the top -/
def ZeroAt (K : PySem.W.Frag) (Z : Addr) : Prop := PySem.W.nsIn K mainGlobals "ZERO" = some (some (.ref Z)) ∧ ∃ (o : Obj) (a b c d : Tok) (m : Nat), K.lookup Z = some o ∧ o.cls = .type "tuple" ∧ o.data = .seq #[.int 0 a, .int 0 b, .int 1 c, .int 1 d] m
theorem zero_at {K : PySem.W.Frag} {Z : Addr} {o : Obj} {a b c d : Tok} {m : Nat} (n : PySem.W.nsIn K mainGlobals "ZERO" = some (some (.ref Z))) (l : K.lookup Z = some o) (c1 : o.cls = .type "tuple") (d1 : o.data = .seq #[.int 0 a, .int 0 b, .int 1 c, .int 1 d] m) : ZeroAt K Z := ⟨n, o, a, b, c, d, m, l, c1, d1⟩
theorem ZeroAt.tup {Z : Addr} (z : ZeroAt K Z) (H : Hp) : SqT K H Z (BgV Bg.zero) := by
  obtain ⟨_, o, a, b, c, d, m, l, c1, d1⟩ := z
  exact .inr ⟨o, _, m, l, c1, d1, by show 4 ≤ sizeLine; decide, .cons ⟨_, rfl⟩ (.cons ⟨_, rfl⟩ (.cons ⟨_, rfl⟩ (.cons ⟨_, rfl⟩ .nil)))⟩
/-- beginnings and how they go on -/
structure CoreA (P : Program) (w : World) (K : PySem.W.Frag) (mg : Str → Option Value) (base : Heap) : Prop where
  topOf : ∃ f fd, Def1 P w K mg base "top_of" 1 f fd ["table"] spTopOf
  worths : ∃ f fd, Def1 P w K mg base "worths" 1 f fd ["table"] spWorths
  vocab : ∃ f fd, Def1 P w K mg base "vocabulary" 2 f fd ["table"] spVocab
  start : ∃ f fd, Def1 P w K mg base "start" 2 f fd ["table"] (spStart K)
  fol : ∃ f fd, Def1 P w K mg base "followed" 2 f fd ["beginning", "worth"] (spFol K)
  steps : ∃ f fd, Def1 P w K mg base "steps" 3 f fd ["beginning", "words"] (spSteps K)
  count : ∃ f fd, Def1 P w K mg base "count_within" 2 f fd ["beginning", "low", "high"] (spCount K)
/-- places -/
structure CoreB (P : Program) (w : World) (K : PySem.W.Frag) (mg : Str → Option Value) (base : Heap) : Prop where
  ends : ∃ f fd, Def1 P w K mg base "ends_within" 2 f fd ["beginning", "low", "high"] (spEnds K)
  own : ∃ f fd, Def1 P w K mg base "own_number" 1 f fd ["beginning"] (spOwn K)
  placeW : ∃ f fd, Def1 P w K mg base "place_within" 4 f fd ["table", "number", "low", "high"] spPlaceW
end
end LB
set_option Elab.async false
set_option linter.all false
set_option maxRecDepth 100000
set_option maxHeartbeats 4000000
/-! The program's own on valid arguments: limit, place, number_at. -/
namespace LB
open PySem L2 Wk
open Bg (Bg Wo)
/-- a valid table -/
structure Tab (H : Hp) (t : Addr) (ones tens : List Str) (hun : Str) (scales : List Str) (o te sc : Addr) : Prop where
  tb : Tbl H t ones tens hun scales o te sc
  good : GoodRow (ones ++ (tens ++ hun :: scales))
theorem Tab.same {H H' : Hp} {t : Addr} {ones tens : List Str} {hun : Str} {scales : List Str} {o te sc : Addr} (T : Tab H t ones tens hun scales o te sc) (s : Same H H') : Tab H' t ones tens hun scales o te sc := ⟨T.tb.same s, T.good⟩
theorem Tab.voc {H : Hp} {t : Addr} {ones tens : List Str} {hun : Str} {scales : List Str} {o te sc : Addr} {ws : List (Str × Wo)} (T : Tab H t ones tens hun scales o te sc) (p : ws.Perm (voc ones tens hun scales)) (a : ascW ws) : Voc ones tens hun scales ws :=
  ⟨p, a, T.tb.l1, T.tb.l2, T.tb.nd⟩
/-- the bound: below, or all numbers -/
def bnd (W : Int) (most : V) : Int := match most with
  | .int m => m
  | _ => W
theorem _root_.L2.FunD.ok0 {P : Program} {w : World} {K : PySem.W.Frag} {mg : Str → Option Value} {base : Heap} {x qual : Str} {params : Arguments} {body : List Stmt} {scope : Scope} {dvs : List V} {kws : List (Str × V)} {f : Addr} {fd : FuncData} {N ps : List Str} {k : Nat} {sp : Sp}
    (F : FunD K x qual params body scope dvs kws f fd) (S : FnScope N ps scope) (len : ∀ vs H Q E, sp vs H Q E → vs.length = ps.length)
    (hbody : ∀ (cdv : Value) (A : Around) (outer : List Env) (s : Shared) (H : Hp) (vs : List V) (Q : VK) (E : XK), Room k (A.deeper (PyProof.Rows.envOfC qual scope s.heap.objs.size f cdv)) → sp vs H Q E →
      ∃ t, PSs (cxOf CX0 P w K mg base N qual scope f cdv A outer s H E).nox body t ∧ t { nx := fun _ H' => Q .non H', rt := Q } (L2.start N vs) H) : FnOk P w K mg base CX0 (k + 1) f fd ps sp :=
  F.ok S len fun cdv A outer s H vs Q E hr h => by
    obtain ⟨t, p, q⟩ := hbody cdv A outer s H vs Q E hr h
    exact ⟨t, p.nox, q⟩
def spLimit0 : Sp := fun vs H Q _ => ∃ (t o te sc : Addr) (ones tens : List Str) (hun : Str) (scales : List Str), vs = [.ref t] ∧ Tab H t ones tens hun scales o te sc ∧ ∀ H', Same H H' → Q (.int (Bg.W (scales.length + 1))) H'
def spBelow0 : Sp := fun vs H Q _ => ∃ (t o te sc : Addr) (ones tens : List Str) (hun : Str) (scales : List Str) (most : V), vs = [.ref t, most] ∧ Tab H t ones tens hun scales o te sc ∧
  (most = .non ∨ ∃ m : Int, most = .int m ∧ 1 ≤ m ∧ m ≤ Bg.W (scales.length + 1)) ∧ ∀ H', Same H H' → Q (.int (bnd (Bg.W (scales.length + 1)) most)) H'
def spPlace0 : Sp := fun vs H Q _ => ∃ (t o te sc : Addr) (ones tens : List Str) (hun : Str) (scales : List Str) (n : Int) (most : V), vs = [.ref t, .int n, most] ∧ Tab H t ones tens hun scales o te sc ∧
  (most = .non ∨ ∃ m : Int, most = .int m ∧ 1 ≤ m ∧ m ≤ Bg.W (scales.length + 1)) ∧ 0 ≤ n ∧ n < bnd (Bg.W (scales.length + 1)) most ∧
  ∀ H', Same H H' → Q (.int (ahead ones tens hun scales 0 (bnd (Bg.W (scales.length + 1)) most - 1) n)) H'
def spNumAt0 : Sp := fun vs H Q _ => ∃ (t o te sc : Addr) (ones tens : List Str) (hun : Str) (scales : List Str) (n : Int) (most : V), vs = [.ref t, .int n, most] ∧ Tab H t ones tens hun scales o te sc ∧
  (most = .non ∨ ∃ m : Int, most = .int m ∧ 1 ≤ m ∧ m ≤ Bg.W (scales.length + 1)) ∧ 0 ≤ n ∧ n < bnd (Bg.W (scales.length + 1)) most ∧
  ∀ r H', Same H H' → 0 ≤ r → r < bnd (Bg.W (scales.length + 1)) most → ahead ones tens hun scales 0 (bnd (Bg.W (scales.length + 1)) most - 1) r = n → Q (.int r) H'
theorem bnd_0 {W : Int} {most : V} (w : 1 ≤ W) (h : most = .non ∨ ∃ m : Int, most = .int m ∧ 1 ≤ m ∧ m ≤ W) : 1 ≤ bnd W most ∧ bnd W most ≤ W := by
  rcases h with rfl | ⟨m, rfl, h⟩
  · exact ⟨w, Int.le_refl _⟩
  · exact h
section
variable {P : Program} {w : World} {K : PySem.W.Frag} {mg : Str → Option Value} {base : Heap}
theorem scLimit0 : FnScope ["table"] ["table"] (defScope sLimit) := ⟨rfl, rfl, rfl, by decide +kernel, rfl, by decide +kernel, by decide +kernel⟩
theorem ok_limit0 {f fC fT : Addr} {fd dC dT : FuncData} (F : Fun K "limit" "limit" sLimit f fd) (C : Def1 P w K mg base "check_table" 2 fC dC ["table"] spCheck) (T : Def1 P w K mg base "top_of" 1 fT dT ["table"] spTopOf) : FnOk P w K mg base CX0 3 f fd ["table"] spLimit0 := by
  refine F.ok scLimit0 (fun vs H Q E h => ?_) (fun cdv A outer s H vs Q E hr h => ?_)
  · obtain ⟨t, o, te, sc, ones, tens, hun, scales, rfl, _⟩ := h
    rfl
  · obtain ⟨t, o, te, sc, ones, tens, hun, scales, rfl, TB, k⟩ := h
    have l3 := TB.tb.l3
    refine ⟨_, pss_cons (ps_expr (pe_call C.ok hr (by rfl) C.g C.k C.b .nil pass0 (pa_cons (pv 0) pa_nil)))
      (pss_one (ps_ret (pe_call T.ok (hr.mono (by decide)) (by rfl) T.g T.k T.b .nil pass0 (pa_cons (pv 0) pa_nil)))), ?_⟩
    refine ⟨_, rfl, t, o, te, sc, ones, tens, hun, scales, rfl, TB.tb.at_, TB.tb.l1, TB.tb.l2, by omega, TB.good, fun H1 s1 => ?_⟩
    have T1 := TB.same s1
    refine ⟨_, rfl, t, o, te, sc, ones, tens, hun, scales, rfl, T1.tb.at_, by omega, ?_⟩
    rw [limit_W]
    exact k _ s1
end
end LB
set_option Elab.async false
set_option linter.all false
set_option maxRecDepth 100000
set_option maxHeartbeats 4000000
/-! The program's own: the number at a place. -/
namespace LB
open PySem L2 Wk
open Bg (Bg Wo)
section
variable {P : Program} {w : World} {K : PySem.W.Frag} {mg : Str → Option Value} {base : Heap}
end
end LB
set_option Elab.async false
set_option linter.all false
set_option maxRecDepth 100000
set_option maxHeartbeats 4000000
/-! The program's own on valid arguments: ranges. -/
namespace LB
open PySem L2 Wk
open Bg (Bg Wo)
def spCN0 : Sp := fun vs H Q _ => ∃ (t o te sc : Addr) (ones tens : List Str) (hun : Str) (scales : List Str) (n : Int), vs = [.ref t, .int n] ∧ Tab H t ones tens hun scales o te sc ∧ 0 ≤ n ∧ n < Bg.W (scales.length + 1) ∧ ∀ H', Same H H' → Q .non H'
def spCR0 : Sp := fun vs H Q _ => ∃ (t o te sc : Addr) (ones tens : List Str) (hun : Str) (scales : List Str) (lo hi : Int), vs = [.ref t, .int lo, .int hi] ∧ Tab H t ones tens hun scales o te sc ∧ 0 ≤ lo ∧ lo ≤ hi ∧ hi < Bg.W (scales.length + 1) ∧ ∀ H', Same H H' → Q .non H'
def spCB0 : Sp := fun vs H Q _ => ∃ (t o te sc : Addr) (ones tens : List Str) (hun : Str) (scales : List Str) (n lo hi : Int), vs = [.ref t, .int n, .int lo, .int hi] ∧ Tab H t ones tens hun scales o te sc ∧ 0 ≤ n ∧ n < Bg.W (scales.length + 1) ∧
  0 ≤ lo ∧ lo ≤ hi ∧ hi < Bg.W (scales.length + 1) ∧ ∀ H', Same H H' → Q (.int (ahead ones tens hun scales lo hi n)) H'
def spNth0 : Sp := fun vs H Q _ => ∃ (t o te sc : Addr) (ones tens : List Str) (hun : Str) (scales : List Str) (n lo hi : Int), vs = [.ref t, .int n, .int lo, .int hi] ∧ Tab H t ones tens hun scales o te sc ∧ 0 ≤ n ∧ n ≤ hi - lo ∧
  0 ≤ lo ∧ lo ≤ hi ∧ hi < Bg.W (scales.length + 1) ∧ ∀ r H', Same H H' → lo ≤ r → r ≤ hi → ahead ones tens hun scales lo hi r = n → Q (.int r) H'
/-- the neighbour of a number: at this place, if there is one -/
def spNext0 (up : Bool) : Sp := fun vs H Q _ => ∃ (t o te sc : Addr) (ones tens : List Str) (hun : Str) (scales : List Str) (n lo hi : Int), vs = [.ref t, .int n, .int lo, .int hi] ∧ Tab H t ones tens hun scales o te sc ∧ 0 ≤ n ∧ n < Bg.W (scales.length + 1) ∧
  0 ≤ lo ∧ lo ≤ hi ∧ hi < Bg.W (scales.length + 1) ∧ (∀ p : Int, p = (if up then ahead ones tens hun scales lo hi n + (if lo ≤ n ∧ n ≤ hi then 1 else 0) else ahead ones tens hun scales lo hi n - 1) →
    ((p < 0 ∨ p > hi - lo) → ∀ H', Same H H' → Q .non H') ∧ (0 ≤ p → p ≤ hi - lo → ∀ r H', Same H H' → lo ≤ r → r ≤ hi → ahead ones tens hun scales lo hi r = p → Q (.int r) H'))
section
variable {P : Program} {w : World} {K : PySem.W.Frag} {mg : Str → Option Value} {base : Heap}
theorem scCN : FnScope ["table", "number", "top"] ["table", "number"] (defScope sCheckNum) := ⟨rfl, rfl, rfl, by decide +kernel, rfl, by decide +kernel, by decide +kernel⟩
theorem ok_checkNum0 {f fL : Addr} {fd dL : FuncData} (F : Fun K "check_number" "check_number" sCheckNum f fd) (L : Def1 P w K mg base "limit" 3 fL dL ["table"] spLimit0) : FnOk P w K mg base CX0 4 f fd ["table", "number"] spCN0 := by
  refine F.ok scCN (fun vs H Q E h => ?_) (fun cdv A outer s H vs Q E hr h => ?_)
  · obtain ⟨t, o, te, sc, ones, tens, hun, scales, n, rfl, _⟩ := h
    rfl
  · obtain ⟨t, o, te, sc, ones, tens, hun, scales, n, rfl, TB, n0, n1, k⟩ := h
    refine ⟨_, pss_cons (ps_set (i := 2) scCN.nd rfl (.inl rfl) (pe_call L.ok hr (by rfl) L.g L.k L.b .nil pass0 (pa_cons (pv 0) pa_nil)))
        (pss_one (ps_if (PW.pt (pw_or (pt_cmpR op_lt (pv 1) pe_int (nomark _)) (pw_or1 (pt_cmpR op_ge (pv 1) (pv 2) (nomark _))))) pss_never pss_nil)), ?_⟩
    refine ⟨_, rfl, t, o, te, sc, ones, tens, hun, scales, rfl, TB, fun H1 s1 => ?_⟩
    refine ⟨_, rfl, _, _, rfl, rfl, _, rfl, ite2 (fun z => absurd (of_decide_eq_true z) (by omega)) (fun _ => ?_)⟩
    refine ⟨_, rfl, _, rfl, _, _, rfl, rfl, _, rfl, ite2 (fun z => absurd (of_decide_eq_true z) (by omega)) (fun _ => ?_)⟩
    exact k _ s1
end
end LB
set_option Elab.async false
set_option linter.all false
set_option maxRecDepth 100000
set_option maxHeartbeats 4000000
/-! Family B: the law's own names and numbers. -/
namespace LB
open PySem L2 Wk
open Bg (Bg Wo)
theorem wds_dp {K : PySem.W.Frag} {H : Hp} : ∀ l : List Str, DpAll K H (l.map V.str) (l.map PyData.str)
  | [] => .nil
  | x :: l => .cons (.str x) (wds_dp l)
theorem wds_lay : ∀ l : List Str, (∀ x ∈ l, ∀ c ∈ x.cps.toList, c < 128) → PyData.canLayAll0 (l.map PyData.str) = true ∧ PyData.depthAll (l.map PyData.str) ≤ 1
  | [], _ => ⟨rfl, by decide⟩
  | x :: l, h => by
    obtain ⟨a, b⟩ := wds_lay l fun y hy => h y (List.mem_cons_of_mem _ hy)
    have hc := h x List.mem_cons_self
    refine ⟨?_, ?_⟩
    · rw [List.map_cons, PyData.canLayAll0, a, Bool.and_true, PyData.canLay0]
      unfold PyData.strOk
      rw [Array.all_eq_true_iff_forall_mem]
      intro c hm
      have := hc c (Array.mem_toList_iff.mpr hm)
      exact decide_eq_true (by omega)
    · rw [List.map_cons, PyData.depthAll, PyData.depth]
      omega
theorem wds_shaped {l : List Str} (h : ∀ x ∈ l, ∀ c ∈ x.cps.toList, c < 128) : SeqAt.shaped (.list (l.map PyData.str)) = true := by
  obtain ⟨a, b⟩ := wds_lay l h
  unfold SeqAt.shaped
  rw [PyData.canLay0, a, PyData.depth]
  simp
  omega
theorem wds_eqv (l : List Str) : PyData.eqv (.list (l.map PyData.str)) (.list []) = l.isEmpty := by
  cases l with
  | nil => rfl
  | cons c l => rfl
theorem wd_mem {ones tens : List Str} {hun : Str} {scales : List Str} (x : Wo) : wd ones tens hun scales x ∈ ones ++ (tens ++ hun :: scales) := by
  have hh : hun ∈ ones ++ (tens ++ hun :: scales) := List.mem_append_right _ (List.mem_append_right _ List.mem_cons_self)
  have get : ∀ {l : List Str} {i : Nat}, (∀ y ∈ l, y ∈ ones ++ (tens ++ hun :: scales)) → (l[i]?).getD hun ∈ ones ++ (tens ++ hun :: scales) := by
    intro l i h
    cases q : l[i]? with
    | none => exact hh
    | some y => exact h y (List.mem_of_getElem? q)
  unfold wd
  cases x with
  | low n =>
    simp only
    split
    · exact get fun y hy => List.mem_append_left _ hy
    · exact get fun y hy => List.mem_append_right _ (List.mem_append_left _ hy)
  | hun => exact hh
  | sc i => exact get fun y hy => List.mem_append_right _ (List.mem_append_right _ (List.mem_cons_of_mem _ hy))
theorem names_low {ones tens : List Str} {hun : Str} {scales : List Str} (good : GoodRow (ones ++ (tens ++ hun :: scales))) (A : List Wo) : ∀ x ∈ A.map (wd ones tens hun scales), ∀ c ∈ x.cps.toList, c < 128 := by
  intro x hx c hc
  obtain ⟨y, _, rfl⟩ := List.mem_map.mp hx
  have := (good.ok _ (wd_mem y)).2.2 c hc
  omega
def spSpelt : Sp := fun vs H Q _ => ∃ (t o te sc : Addr) (ones tens : List Str) (hun : Str) (scales : List Str) (n : Int), vs = [.ref t, .int n] ∧ Tab H t ones tens hun scales o te sc ∧ 0 ≤ n ∧ n < Bg.W (scales.length + 1) ∧
  ∀ p H', H p = none → Same H H' → H' p = some (.lst ((nmL ones tens hun scales n).map V.str)) → Q (.ref p) H'
theorem partW_split (n : Int) (j : Nat) : Bg.partW n j = Bg.groupW (Bg.gr n j) ++ (if (Bg.groupW (Bg.gr n j)).isEmpty = false ∧ j > 0 then [.sc (j - 1)] else []) := by
  have gb := Bg.gr_bnd n j
  unfold Bg.partW
  by_cases c : Bg.gr n j > 0
  · rw [if_pos c]
    have ne : (Bg.groupW (Bg.gr n j)).isEmpty = false := by
      unfold Bg.groupW
      by_cases c1 : Bg.gr n j / 100 > 0
      · rw [if_pos c1]
        rfl
      · rw [if_neg c1]
        by_cases c2 : Bg.gr n j % 100 ≥ 20
        · rw [if_pos c2]
          rfl
        · rw [if_neg c2, if_pos (by omega)]
          rfl
    by_cases d : j > 0
    · rw [if_pos d, if_pos ⟨ne, d⟩]
    · rw [if_neg d, if_neg (by omega)]
  · have z : Bg.gr n j = 0 := by omega
    rw [if_neg c, z]
    rfl
section
variable {P : Program} {w : World} {K : PySem.W.Frag} {mg : Str → Option Value} {base : Heap}
end
end LB
set_option Elab.async false
set_option linter.all false
set_option maxRecDepth 100000
set_option maxHeartbeats 4000000
/-! Family B: great numbers. -/
namespace LB
open PySem L2 Wk
open Bg (Bg Wo)
/-- all but the source of draws is as it was -/
def Kp (p : Addr) (H G : Hp) : Prop := ∀ q o, H q = some o → q ≠ p → G q = some o
theorem Kp.refl (p : Addr) (H : Hp) : Kp p H H := fun _ _ h _ => h
theorem Kp.trans {p : Addr} {H G J : Hp} (a : Kp p H G) (b : Kp p G J) : Kp p H J := fun q o h n => b q o (a q o h n) n
theorem Kp.same {p : Addr} {H G J : Hp} (a : Kp p H G) (b : Same G J) : Kp p H J := fun q o h n => b q o (a q o h n)
theorem Kp.lst {p q : Addr} {H G : Hp} {xs : List V} (a : Kp p H G) (h : H q = some (.lst xs)) (n : q ≠ p) : G q = some (.lst xs) := a q _ h n
theorem RngAt.same {H G : Hp} {p : Addr} {d s c : Int} (B : RngAt H p d s c) (e : Same H G) : RngAt G p d s c := ⟨e _ _ B.at_, B.d0, B.s0, B.s1, B.c0⟩
/-- a list of texts is not the source -/
theorem RngAt.off {H : Hp} {p a : Addr} {d s c : Int} {xs : List Str} (B : RngAt H p d s c) (h : H a = some (.lst (xs.map V.str))) : a ≠ p := fun e => by
  rw [e, B.at_] at h
  cases xs with
  | nil => cases h
  | cons x r => cases h
theorem Tab.kp {H G : Hp} {p t o te sc : Addr} {d s c : Int} {ones tens : List Str} {hun : Str} {scales : List Str} (T : Tab H t ones tens hun scales o te sc) (B : RngAt H p d s c) (k : Kp p H G) : Tab G t ones tens hun scales o te sc := by
  have A := T.tb.at_
  refine ⟨⟨⟨k _ _ A.tup fun z => ?_, k _ _ A.lo (B.off A.lo), k _ _ A.lt (B.off A.lt), k _ _ A.ls (B.off A.ls)⟩, T.tb.l1, T.tb.l2, T.tb.l3, T.tb.nd⟩, T.good⟩
  have e := A.tup
  rw [z, B.at_] at e
  cases e
theorem W_small {j : Nat} (h : j ≤ 95) : (Bg.W j).natAbs < 2 ^ 1000 := by
  have e : Bg.W j = ((1000 ^ j : Nat) : Int) := by
    show (1000 : Int) ^ j = _
    rw [Int.natCast_pow]
    rfl
  rw [e]
  show 1000 ^ j < 2 ^ 1000
  have a : (1000 : Nat) ^ j ≤ (2 ^ 10) ^ j := Nat.pow_le_pow_left (by decide) j
  rw [← Nat.pow_mul] at a
  have b : (2 : Nat) ^ (10 * j) ≤ 2 ^ 950 := Nat.pow_le_pow_right (by decide) (by omega)
  have c : (2 : Nat) ^ 950 < 2 ^ 1000 := Nat.pow_lt_pow_right (by decide) (by decide)
  exact Nat.lt_of_le_of_lt (Nat.le_trans a b) c
/-- what a call that draws leaves: a number, the source, all else as it was -/
def Drawn (H : Hp) (p : Addr) (s c : Int) (n : Int) (G : Hp) : Prop := ∃ d' c', RngAt G p d' s c' ∧ c' ≤ c + n ∧ Kp p H G
def spGreat : Sp := fun vs H Q _ => ∃ (p : Addr) (d s c : Int) (k : Nat), vs = [.ref p, .int (Bg.W (k + 1))] ∧ RngAt H p d s c ∧ k ≤ 20 ∧ c < 2 ^ 29 ∧
  ∀ r H', 0 ≤ r → r < Bg.W (k + 1) → Drawn H p s c 100 H' → Q (.int r) H'
section
variable {P : Program} {w : World} {K : PySem.W.Frag} {mg : Str → Option Value} {base : Heap}
/-- the reading of a draw -/
theorem draw_use {H : Hp} {p : Addr} {d s c upper : Int} {Q : VK} {E : XK} (B : RngAt H p d s c) (u0 : 0 < upper) (u1 : upper.natAbs < 2 ^ 1000) (hc : c < 2 ^ 30) (k : ∀ r d' c' G, 0 ≤ r → r < upper → c' ≤ c + 1 → RngAt G p d' s c' → Kp p H G → Q (.int r) G) : spDraw [.ref p, .int upper] H Q E :=
  ⟨p, d, s, c, upper, rfl, B, u0, u1, hc, fun r d' c' G h1 h2 h3 h4 h5 => k r d' c' G h1 h2 h3 h4 h5⟩
end
end LB
set_option Elab.async false
set_option linter.all false
set_option maxRecDepth 100000
set_option maxHeartbeats 8000000
/-! Names as texts, numbers compared. -/
namespace LB
open PySem L2 Wk
open Bg (Bg Wo)
/-- sep.join(xs) where K is known beforehand: within a comprehension -/
def rJn (K : PySem.W.Frag) : V → List V → Hp → VK → Prop := fun x xs H Q => ∃ a p, ∃ ys : List Str, x = .str a ∧ xs = [.ref p] ∧ (SqL K H p (ys.map V.str) ∨ SqT K H p (ys.map V.str)) ∧ (ys.map (·.length)).sum + ys.length * a.length ≤ 16777216 ∧ Q (.str (Txt.join a ys)) H
theorem pe_joinK {X : Cx} {o e : Expr} {to te : TE} {apos pos : Pos} (K : PySem.W.Frag) (hK : X.K = K) (ho : PE X o to) (he : PE X e te) (hs : starEach [e] X.env = [(false, eval e X.env)] := by rfl) (hbase : attributeBase o "join" X.env (eval o X.env) = eval o X.env := by rfl) (hline : (apos.endLine == pos.line) = true := by rfl) :
    PE X (.Call (.Attribute o "join" apos) [e] [] pos) (tM1 (rJn K) to te) := by
  subst hK
  exact pe_join ho he hs hbase hline
/-- a sorted vocabulary there is -/
theorem sort_one (x : Str × Wo) : ∀ {ws : List (Str × Wo)}, ascW ws → (∀ e ∈ ws, e.1 ≠ x.1) → ∃ us, us.Perm (x :: ws) ∧ ascW us
  | [], _, _ => ⟨[x], List.Perm.refl _, List.pairwise_singleton _ _⟩
  | y :: ws, h, n => by
    obtain ⟨hd, tl⟩ := List.pairwise_cons.mp h
    cases c : WkI.ltS x.1 y.1 with
    | true =>
      refine ⟨x :: y :: ws, List.Perm.refl _, List.pairwise_cons.mpr ⟨fun e he => ?_, h⟩⟩
      rcases List.mem_cons.mp he with rfl | he
      · exact c
      · exact ltS_trans c (hd e he)
    | false =>
      have lt : WkI.ltS y.1 x.1 = true := by
        cases d : WkI.ltS y.1 x.1 with
        | true => rfl
        | false => exact absurd (WkI.ltS_tri d c) (n y List.mem_cons_self)
      obtain ⟨us, p, a⟩ := sort_one x tl fun e he => n e (List.mem_cons_of_mem _ he)
      refine ⟨y :: us, (List.Perm.cons y p).trans (List.Perm.swap x y ws), List.pairwise_cons.mpr ⟨fun e he => ?_, a⟩⟩
      rcases List.mem_cons.mp (p.mem_iff.mp he) with rfl | he
      · exact lt
      · exact hd e he
theorem sort_all : ∀ {l : List (Str × Wo)}, (l.map (·.1)).Nodup → ∃ ws, ws.Perm l ∧ ascW ws
  | [], _ => ⟨[], List.Perm.refl _, List.Pairwise.nil⟩
  | x :: l, h => by
    rw [List.map_cons, List.nodup_cons] at h
    obtain ⟨ws, p, a⟩ := sort_all h.2
    obtain ⟨us, q, b⟩ := sort_one x a fun e he z => h.1 (List.mem_map.mpr ⟨e, p.mem_iff.mp he, z⟩)
    exact ⟨us, q.trans (List.Perm.cons x p), b⟩
theorem Tab.has_voc {H : Hp} {t : Addr} {ones tens : List Str} {hun : Str} {scales : List Str} {o te sc : Addr} (T : Tab H t ones tens hun scales o te sc) : ∃ ws, Voc ones tens hun scales ws := by
  have n : ((LB.voc ones tens hun scales).map (·.1)).Nodup := by
    rw [voc_fst]
    exact (perm_hun ones tens hun scales).nodup_iff.mpr T.tb.nd
  obtain ⟨ws, p, a⟩ := sort_all n
  exact ⟨ws, T.voc p a⟩
section
variable {ones tens : List Str} {hun : Str} {scales : List Str} {ws : List (Str × Wo)}
/-- two numbers, one name ahead of the other -/
theorem less_or (V : Voc ones tens hun scales ws) {a b : Int} (a0 : 0 ≤ a) (a1 : a < Bg.W (scales.length + 1)) (b0 : 0 ≤ b) (b1 : b < Bg.W (scales.length + 1)) (ne : a ≠ b) (h : ltL (nmL ones tens hun scales a) (nmL ones tens hun scales b) = false) :
    ltL (nmL ones tens hun scales b) (nmL ones tens hun scales a) = true := by
  cases c : ltL (nmL ones tens hun scales b) (nmL ones tens hun scales a) with
  | true => rfl
  | false => exact absurd (name_inj V a0 a1 b0 b1 (ltL_tri h c)) ne
/-- places below a bound are in the order of the names -/
theorem place_lt (V : Voc ones tens hun scales ws) {a b m : Int} (a0 : 0 ≤ a) (b0 : 0 ≤ b) (am : a < m) (bm : b < m) (m1 : m ≤ Bg.W (scales.length + 1)) (ne : a ≠ b) :
    decide (ahead ones tens hun scales 0 (m - 1) a < ahead ones tens hun scales 0 (m - 1) b) = ltL (nmL ones tens hun scales a) (nmL ones tens hun scales b) := by
  cases c : ltL (nmL ones tens hun scales a) (nmL ones tens hun scales b) with
  | true => exact decide_eq_true (ahead_lt ones tens hun scales a0 (by omega) c)
  | false =>
    have d := less_or V a0 (by omega) b0 (by omega) ne c
    have := ahead_lt ones tens hun scales (lo := 0) (hi := m - 1) b0 (by omega) d
    exact decide_eq_false (by omega)
theorem ahead_up {m m' n : Int} (h0 : 1 ≤ m) (h : m ≤ m') : ahead ones tens hun scales 0 (m - 1) n ≤ ahead ones tens hun scales 0 (m' - 1) n := by
  have := ahead_grow ones tens hun scales (lo := 0) (hi := m - 1) (n := n) (m' - m).toNat (by omega)
  rw [show m - 1 + (((m' - m).toNat : Nat) : Int) = m' - 1 by omega] at this
  exact this
theorem nm_good (good : GoodRow (ones ++ (tens ++ hun :: scales))) (n : Int) : ∀ x ∈ nmL ones tens hun scales n, GoodWord x := by
  intro x hx
  obtain ⟨y, _, rfl⟩ := List.mem_map.mp hx
  exact good.ok _ (wd_mem y)
theorem nm_ne {n : Int} (h0 : 0 ≤ n) (h1 : n < Bg.W (scales.length + 1)) : nmL ones tens hun scales n ≠ [] := by
  intro h
  have e : Bg.nameW n (scales.length + 1) = [] := List.map_eq_nil_iff.mp h
  obtain ⟨c, c1, c2, c3⟩ := Bg.name_path h0 h1
  rw [e] at c1
  cases c1
  have : Bg.has (Bg.start scales.length) = false := rfl
  rw [this] at c2
  cases c2
theorem nm_len (n : Int) : (nmL ones tens hun scales n).length ≤ 5 * (scales.length + 1) + 1 := by
  unfold nmL Bg.nameW
  rw [List.length_map]
  split
  · show 1 ≤ _
    omega
  · have := Bg.accW_len n (scales.length + 1) (scales.length + 1)
    rw [Bg.accW_all] at this
    omega
/-- the text of a name is not too long to be joined -/
theorem nm_join (good : GoodRow (ones ++ (tens ++ hun :: scales))) (l3 : scales.length ≤ 90) (n : Int) : ((nmL ones tens hun scales n).map (·.length)).sum + (nmL ones tens hun scales n).length * (" " : Str).length ≤ 16777216 := by
  have l := nm_len (ones := ones) (tens := tens) (hun := hun) (scales := scales) n
  have s : ∀ l : List Str, (∀ x ∈ l, GoodWord x) → (l.map (·.length)).sum ≤ 20 * l.length := by
    intro l
    induction l with
    | nil => intro _; exact Nat.le_refl _
    | cons x l ih =>
      intro h
      rw [List.map_cons, List.sum_cons, List.length_cons]
      have a := (h x List.mem_cons_self).2.1
      have b := ih fun y hy => h y (List.mem_cons_of_mem _ hy)
      omega
  have q := s _ (nm_good good n)
  have e : (" " : Str).length = 1 := by decide +kernel
  rw [e]
  omega
end
def nameT (ones tens : List Str) (hun : Str) (scales : List Str) (n : Int) : Str := Txt.join " " (nmL ones tens hun scales n)
/-- the law's own text: what it does for each script -/
def spTrue (K : PySem.W.Frag) : Sp := fun vs H Q _ => ∃ (a : Addr) (ns : List Int), vs = [.ref a] ∧ SqL K H a (ns.map V.int) ∧ ns.length ≤ 63 ∧ ∀ H', Q (.bl true) H'
theorem Tab.of {H : Hp} {t : Addr} {ones tens : List Str} {hun : Str} {scales : List Str} {o te sc : Addr} (A : TabAt H t ones tens hun scales o te sc) (l1 : ones.length = 20) (l2 : tens.length = 8) (l3 : scales.length ≤ 90) (g : GoodRow (ones ++ (tens ++ hun :: scales))) :
    Tab H t ones tens hun scales o te sc := ⟨⟨A, l1, l2, l3, g.nd⟩, g⟩
section
variable {P : Program} {w : World} {K : PySem.W.Frag} {mg : Str → Option Value} {base : Heap}
theorem int_at {ns : List Int} {i : Nat} {y : V} (h : (ns.map V.int)[i]? = some y) : ∃ m, ns[i]? = some m ∧ y = .int m := by
  rw [List.getElem?_map] at h
  cases q : ns[i]? with
  | none =>
    rw [q] at h
    cases h
  | some m =>
    rw [q] at h
    exact ⟨m, rfl, (Option.some.inj h).symm⟩
end
end LB
set_option Elab.async false
set_option linter.all false
set_option maxRecDepth 100000
set_option maxHeartbeats 4000000
/-! Patterns, the program's own: fits. -/
namespace LB
open PySem L2 Wk
open Bg (Bg Wo)
theorem RdAt.same {H G : Hp} {C a dx : Addr} {P : List It} {p d : Addr} {g B lg fi la : Nat} {kvs : List (Key × V)} (R : RdAt H C a dx P p d g B lg fi la kvs) (s : Same H G) : RdAt G C a dx P p d g B lg fi la kvs :=
  ⟨s _ _ R.at_, s _ _ R.dict, R.gg, R.l40, R.hG, R.hB, R.tk, R.fst⟩
def spFits (K : PySem.W.Frag) : Sp := fun vs H Q _ => ∃ (t o te sc : Addr) (ones tens : List Str) (hun : Str) (scales : List Str) (l : Addr) (pat : List It) (n : Int), vs = [.ref t, .ref l, .int n] ∧ Tab H t ones tens hun scales o te sc ∧ 0 ≤ n ∧ n < Bg.W (scales.length + 1) ∧
  SqL K H l (pat.map vI) ∧ pat.length ≤ 40 ∧ (∀ x ∈ pat, okI x = true) ∧ ∀ (b : Bool) H', Same H H' → (b = true ↔ mts (nmL ones tens hun scales n) pat (nmL ones tens hun scales n).length) → Q (.bl b) H'
section
variable {P : Program} {w : World} {K : PySem.W.Frag} {mg : Str → Option Value} {base : Heap} {C : Addr}
theorem scFits : FnScope ["table", "pattern", "number"] ["table", "pattern", "number"] (defScope sFits) := ⟨rfl, rfl, rfl, by decide +kernel, rfl, by decide +kernel, by decide +kernel⟩
theorem ok_fits {f fN fS fI fR : Addr} {fd dN dS dI dR : FuncData} (F : Fun K "fits" "fits" sFits f fd) (RC : RdC K C) (DN : Def1 P w K mg base "check_number" 4 fN dN ["table", "number"] spCN0) (DS : Def1 P w K mg base "spelled" 2 fS dS ["table", "number"] spSpelled)
    (MK : Mk K C fI) (gC : mg "Reader" = some (.ref C)) (PI : FnOk P w K mg base CX0 2 fI dI ["self", "pattern"] (spRInit K C)) (bI : Binds K dI ["self", "pattern"] []) (mR : Meth K C "reads" fR) (PR : FnOk P w K mg base CX0 4 fR dR ["self", "words"] (spReads K C)) (bR : Binds K dR ["self", "words"] []) :
    FnOk P w K mg base CX0 5 f fd ["table", "pattern", "number"] (spFits K) := by
  refine F.ok scFits (fun vs H Q E h => ?_) (fun cdv A outer s H vs Q E hr h => ?_)
  · obtain ⟨t, o, te, sc, ones, tens, hun, scales, l, pat, n, rfl, _⟩ := h
    rfl
  · obtain ⟨t, o, te, sc, ones, tens, hun, scales, l, pat, n, rfl, T, n0, n1, hl, l40, okp, k⟩ := h
    have hr4 : Room 4 _ := hr
    have hr3 : Room 3 _ := hr.mono (by decide)
    have hr2 : Room 2 _ := hr.mono (by decide)
    refine ⟨_, pss_cons (ps_expr (pe_call DN.ok hr4 (by rfl) DN.g DN.k DN.b .nil pass0 (pa_cons (pv 0) (pa_cons (pv 2) pa_nil))))
        (pss_one (ps_ret (pe_meth (pe_make MK PI hr3 (by rfl) gC bI .nil pass0 (pa_cons (pv 1) pa_nil)) RC.cls mR PR hr4 bR .nil pass0 (pa_cons (pe_call DS.ok hr2 (by rfl) DS.g DS.k DS.b .nil pass0 (pa_cons (pv 0) (pa_cons (pv 2) pa_nil))) pa_nil)))), ?_⟩
    refine ⟨_, rfl, _, rfl, t, o, te, sc, ones, tens, hun, scales, n, rfl, T, n0, n1, fun H1 s1 => ?_⟩
    refine ⟨_, rfl, fun b dx nb nd ne => ?_⟩
    have s2 : Same H1 (upd (upd H1 dx (.own b)) b (.ins C dx [])) := fun r u e => (upd_ne (ne_of_none e nb)).trans ((upd_ne (ne_of_none e nd)).trans e)
    have s12 := Same.trans s1 s2
    refine ⟨b, dx, l, pat, rfl, upd_same, s12.seq hl, l40, okp, fun p d G B lg fi la kvs H3 R fl keep => ⟨rfl, ?_⟩⟩
    have s3 : Same H1 H3 := fun r u e => keep r u (s2 _ _ e) (ne_of_none e nb)
    have s13 := Same.trans s1 s3
    refine ⟨b, dx, _, rfl, R.at_, rfl, ?_⟩
    refine ⟨_, rfl, _, rfl, t, o, te, sc, ones, tens, hun, scales, n, rfl, (T.same s13).tb.at_, T.tb.l1, T.tb.l2, T.tb.l3, n0, n1, fun q H4 nq s4 hq => ?_⟩
    refine ⟨b, dx, tid pat, p, d, G, B, lg, fi, la, kvs, q, nmL ones tens hun scales n, rfl, R.same s4, fl, SqL.of hq, fun w hw e => ?_, fun bb hb => k bb H4 (Same.trans s13 s4) ?_⟩
    · have g := (nm_good T.good n w hw).1
      rw [e] at g
      exact absurd g (by decide)
    · rw [hb, tid_mts]
end
end LB
set_option Elab.async false
set_option linter.all false
set_option maxRecDepth 100000
set_option maxHeartbeats 4000000
/-! set(list of numbers) of few different ones, and sorted of it. -/
namespace Wk
open PySem PySem.Spec PyProof.Rows L2 PySem.Froz
theorem int_cover : ∀ (M : Nat) (l : List Int), l.Nodup → (∀ k ∈ l, 0 ≤ k ∧ k < (M : Int)) → l.length ≤ M := by
  intro M l nd h
  have e : l.map Int.toNat ⊆ List.range M := fun x hx => by
    obtain ⟨k, hk, rfl⟩ := List.mem_map.mp hx
    have := h k hk
    exact List.mem_range.mpr (by omega)
  have n2 : (l.map Int.toNat).Nodup := by
    refine List.pairwise_map.mpr ((List.Pairwise.and_mem.mp nd).imp ?_)
    rintro a b ⟨ha, hb, ne⟩ q
    have := h a ha
    have := h b hb
    exact ne (by omega)
  have key : ∀ (l m : List Nat), l.Nodup → l ⊆ m → l.length ≤ m.length := by
    intro l
    induction l with
    | nil => exact fun m _ _ => Nat.zero_le _
    | cons x l ih =>
      intro m nd hs
      obtain ⟨n1, n2⟩ := List.nodup_cons.mp nd
      have hx : x ∈ m := hs List.mem_cons_self
      have := ih (m.erase x) n2 fun y hy => (List.mem_erase_of_ne (fun z : y = x => n1 (z ▸ hy))).mpr (hs (List.mem_cons_of_mem _ hy))
      rw [List.length_erase_of_mem hx] at this
      have := List.length_pos_of_mem hx
      rw [List.length_cons]
      omega
  have := key _ _ n2 e
  rw [List.length_map, List.length_range] at this
  exact this
theorem setR_small {w : World} {h : Heap} {a : Addr} {S : Int → Bool} {n M : Nat} (R : SetR w h a S n) (hM : ∀ k, S k = true → 0 ≤ k ∧ k < (M : Int)) : n ≤ M := by
  obtain ⟨o, es, ep, t, _, _, _, _, nd, hm, _, _, hn, _, _⟩ := R
  have := int_cover M (es.toList.map keyOf) nd fun k hk => hM k ((hm k).mpr hk)
  rw [List.length_map, Array.length_toList, hn] at this
  exact this
section
variable {P : Program} {w : World} {A : Around} {E : Value → Shared → Prop} {s : Shared}
/-- the loop of an update by numbers -/
theorem loopInt {I : Addr} {fp wr : List Addr} {G : Array GenState → Array GenState → Prop} {n : Nat} {Pv : Nat → Value → Prop} {St : Nat → Shared → Prop} {R : Result → Shared → Prop}
    (W : WalksS P w A.in1 I fp wr G n Pv St) (b : Addr) (hb : b ∉ fp) (xs : List Int) (M : Nat) (hn : n = xs.length) (room : M + 1 < scanBound) (hM : ∀ k ∈ xs, 0 ≤ k ∧ k < (M : Int)) (hv : ∀ i v, Pv i v → ∃ x t, xs[i]? = some x ∧ v = .int x t) :
    ∀ (k i : Nat) (s : Shared), n - i = k → i ≤ n → St i s → (∃ c, SetR w s.heap b (fun j => decide (j ∈ xs.take i)) c) →
      (∀ s' c, Moved (b :: wr) G s s' → SetR w s'.heap b (fun j => decide (j ∈ xs)) c → R (.ok (.ret .none)) s') →
      codeAny (model P w) A (.builtin "set.update.loop" ⟨[.ref b, .ref I], []⟩) R s := by
  have hbw : b ∉ wr := fun z => hb (W.sub _ z)
  have wider : ∀ c ∈ wr, c ∈ b :: wr := fun c hc => List.mem_cons_of_mem _ hc
  intro k
  induction k with
  | zero =>
    intro i s hk hi hst ⟨c, hS⟩ hR
    obtain rfl : i = n := by omega
    refine codeAny_builtin F.entry_set_update_loop ?_
    rw [Around.under_plainId F.plain_set_update_loop _]
    show wpAny _ A.in1 (pyNext (.ref I) >>= _) _ _ s
    refine wpAny_bind (W.done s _ _ hst fun s1 hm => ?_)
    show wpAny _ A.in1 (ret Value.none) _ _ s1
    rw [List.take_of_length_le (by omega)] at hS
    exact wpAny_pure (hR s1 c (hm.mono wider) (hS.at fun o e => hm.heap b o hbw e))
  | succ k ih =>
    intro i s hk hi hst ⟨c, hS⟩ hR
    have hlt : i < n := by omega
    refine codeAny_builtin F.entry_set_update_loop ?_
    rw [Around.under_plainId F.plain_set_update_loop _]
    show wpAny _ A.in1 (pyNext (.ref I) >>= _) _ _ s
    refine wpAny_bind (W.item i s _ _ hlt hst fun v s1 hP hst1 hm => ?_)
    obtain ⟨x, t, hx, rfl⟩ := hv i v hP
    have hS1 : SetR w s1.heap b (fun j => decide (j ∈ xs.take i)) c := hS.at fun o e => hm.heap b o hbw e
    have cM : c ≤ M := setR_small hS1 fun k hk => hM k (List.mem_of_mem_take (of_decide_eq_true hk))
    show wpAny _ A.in1 (holding [Value.int x t] (setAdd b (.int x t)) >>= _) _ _ s1
    refine wpAny_bind (wpAny_holding ?_)
    unfold setAdd
    refine wpAny_holding (wpAny_bind ((PySem.intKind P w).pyHash (k := x) (intKind_is _ _ _ _) ?_))
    refine setR_add_hashed (s := { s1 with toks := s1.toks + 1 }) hS1 (by omega) fun h2 sb hS2 => ?_
    have hS3 : SetR w h2 b (fun j => decide (j ∈ xs.take (i + 1))) _ := hS2.congr fun j => by
      rw [List.take_add_one, hx]
      simp [List.mem_append]
    refine wpAny_pure ⟨plainId_quiet F.plain_set_update_loop _, ih (i + 1) _ (by omega) hlt (W.frame _ s1 _ _ hst1 (Nat.le_succ _) fun c hcf o e => ?_) ⟨_, hS3⟩ fun s3 c3 hm3 hS4 => ?_⟩
    · rw [sb.2 c (fun z : c = b => hb (z ▸ hcf))]; exact e
    · refine hR s3 c3 (Moved.trans W.gtrans ((hm.mono wider).then_heap (Nat.le_succ _) fun c o hcn e => ?_) hm3) hS4
      rw [sb.2 c (fun z : c = b => hcn (z ▸ List.mem_cons_self))]; exact e
theorem setOfInt {l : Addr} {its : Array Value} (xs : List Int) (M : Nat) {Q : Value → Shared → Prop} (cold : A.handled = none) (hl : s.heap.IsList l its) (are : IntsAre its.toList xs) (room : M + 1 < scanBound) (hM : ∀ k ∈ xs, 0 ≤ k ∧ k < (M : Int))
    (h : ∀ (h' : Heap) (tk c : Nat), SetR w h' s.heap.objs.size (fun j => decide (j ∈ xs)) c →
      (∀ b o, s.heap.get? b = some o → h'.get? b = some o) → Q (.ref s.heap.objs.size) { s with heap := h', toks := tk }) :
    wpAny (model P w) A (call (.type "set") [.ref l]) Q E s := by
  have many : its.size = xs.length := by
    have q := IntsAre.length are
    rw [Array.length_toList] at q
    exact q
  obtain ⟨c, tl, hmro⟩ := F.called_set.mro
  have made := F.called_set.made
  have sub := F.called_set.sub
  refine wpAny_call (codeAny_of_tree ?_)
  show wpAny _ _ (callAny (.type "set") _) _ _ _
  refine wpAny_pure ⟨Code.quiet_builtin _ (by decide +kernel), codeAny_builtin F.entry_type_call ?_⟩
  rw [Around.under_plain (weight_type_call_type "set" [.ref l] []) rfl]
  have t1 := F.called_set.notType
  have t2 := F.called_set.canCreate
  have t3 := F.typeCall_set_1 (.ref l)
  repeat (any_goals (first | assumption | wp_step))
  refine codeAny_mono (code_set_led1 (.ref l) (E := E) (Q₁ := fun z s₁ => z = .ref s.heap.objs.size ∧ s₁ = { s with heap := s.heap.push (bare0 w) }) ⟨rfl, rfl⟩) fun r s₁ hr => ?_
  cases r with
  | error e => exact hr
  | ok fl =>
    cases fl with
    | ret z =>
      obtain ⟨rfl, rfl⟩ := hr
      have at0 : (s.heap.push (bare0 w)).get? s.heap.objs.size = some (bare0 w) := Heap.get?_push_size _ rfl
      have ty : Shared.TypeIs { s with heap := s.heap.push (bare0 w) } (.ref s.heap.objs.size) "set" := ⟨_, at0, rfl⟩
      have i1 := F.called_set.init.lookup
      have i2 := F.called_set.init.bind (.ref s.heap.objs.size)
      repeat (any_goals (first | assumption | wp_step))
      refine codeAny_mono (codeAny_call_builtin (R := wants (fun r s₂ => r = .none ∧ ∃ h' tk c, s₂ = { s with heap := h', toks := tk } ∧ SetR w h' s.heap.objs.size (fun j => decide (j ∈ xs)) c ∧
          (∀ b o, s.heap.get? b = some o → h'.get? b = some o)) E) F.called_set.init.plain F.entry_set_init (check_set_init_1 ty ?_)) fun r₂ s₂ hr₂ => ?_
      · obtain ⟨ol, hol, hcl, nl, hdl⟩ := hl
        obtain ⟨oc, od, oD, os⟩ := ol
        simp only at hcl hdl
        subst hcl; subst hdl
        have hol' : (s.heap.push (bare0 w)).get? l = some { cls := .type "list", dict := od, data := .seq its nl, slots := os } := Heap.get?_push_of_some _ hol
        have u1 := F.sub_list_set
        have u2 := F.sub_list_frozenset
        have u3 : (Value.type "list" == Value.type "dict") = false := by decide
        have isl : (s.heap.push (bare0 w)).IsList l its := ⟨_, hol', rfl, nl, rfl⟩
        unfold Builtin.«set.__init__» noKeywords Builtin.Frozenset.updateFrom
        generalize hPI : pyIter = PI
        wp_walk
        subst hPI
        refine wpAny_pyIter_list isl ?_
        refine wpAny_bind (wpAny_runValue ?_)
        have lless : l < s.heap.objs.size := Heap.lt_size hol
        have cold3 : A.in1.in1.in1.handled = none := by simp [cold]
        have sz : (s.heap.push (bare0 w)).objs.size = s.heap.objs.size + 1 := Heap.size_push ..
        have neI : l ≠ (s.heap.push (bare0 w)).objs.size := by rw [sz]; exact Nat.ne_of_lt (Nat.lt_succ_of_lt lless)
        have apart : s.heap.objs.size ∉ [(s.heap.push (bare0 w)).objs.size, l] := by
          rw [sz]
          simp only [List.mem_cons, List.not_mem_nil, or_false, not_or]
          exact And.intro (Nat.ne_of_lt (Nat.lt_succ_self _)) (Nat.ne_of_gt lless)
        have each : ∀ (i : Nat) (v : Value), its[i]? = some v → ∃ x t, xs[i]? = some x ∧ v = .int x t := fun i v hv => by
          have hi : i < xs.length := by rw [← many]; exact (Array.getElem?_eq_some_iff.mp hv).1
          obtain ⟨t, e⟩ := PyProof.Rows.IntsAre.int_at are i v (by rw [Array.getElem?_toList]; exact hv)
          refine ⟨xs[i], t, List.getElem?_eq_getElem hi, ?_⟩
          rw [e, List.getD_eq_getElem?_getD, List.getElem?_eq_getElem hi] <;> rfl
        refine loopInt ((Walks.list cold3 _ l neI its).toS) s.heap.objs.size apart xs M many room hM each (its.size - 0) 0 _ (by omega) (Nat.zero_le _) ⟨⟨_, Heap.get?_push_size _ rfl, rfl, rfl⟩, (isl.push _)⟩ ?first ?last
        case first =>
          exact ⟨0, setR_new_at (Heap.get?_push_of_some _ at0)⟩
        case last =>
          intro s' c' hm hS'
          obtain ⟨h', g', d', tk', os'⟩ := s'
          have eg : g' = s.gens := hm.gens
          have ed : d' = s.drawn := hm.drawn
          have eo : os' = s.os := hm.os
          subst eg; subst ed; subst eo
          show wpAny _ _ _ _ _ _
          refine wpAny_pure ?_
          show wpAny _ _ (ret Value.none) _ _ _
          refine wpAny_pure ⟨rfl, h', tk', c', rfl, hS', fun b o e => ?_⟩
          have b0 : b < s.heap.objs.size := Heap.lt_size e
          refine hm.heap b o ?_ (Heap.get?_push_of_some _ (Heap.get?_push_of_some _ e))
          simp only [List.mem_cons, List.not_mem_nil, or_false, not_or]
          exact ⟨Nat.ne_of_lt b0, by rw [sz]; exact Nat.ne_of_lt (Nat.lt_succ_of_lt b0)⟩
      · cases r₂ with
        | error e => exact hr₂
        | ok fl₂ =>
          cases fl₂ with
          | ret r =>
            obtain ⟨rfl, h', tk, c', rfl, hS', old⟩ := hr₂
            repeat (any_goals (first | assumption | wp_step))
            exact h _ _ _ hS' old
          | _ => exact hr₂.elim
    | _ => exact hr.elim
/-- sorted of a set of numbers, of any number below the scan's bound -/
theorem sortedOfInt {a : Addr} {S : Int → Bool} {n : Nat} {Q : Value → Shared → Prop} (R : SetR w s.heap a S n) (cold : A.handled = none)
    (h : ∀ s' p (out : Array Value) (c : Nat) (ns : List Int), (∀ b o, s.heap.get? b = some o → s'.heap.get? b = some o) → s'.gens = s.gens → s'.os = s.os → s.heap.objs.size ≤ p →
      s'.heap.get? p = some (seqObj "list" out c) → IntsAre out.toList ns → (∀ k, k ∈ ns ↔ S k = true) → ns.length = n → ns.Nodup → Q (.ref p) s') :
    wpAny (model P w) A (call (.builtin "sorted") [.ref a]) Q E s := by
  obtain ⟨o, es, ep, t, ho, hex, hd, g, nd, hm, hb, hf, hn, hr, hl⟩ := R
  refine Calls.call_function_entry kind_sorted plain_sorted entry_sorted (args_sorted1 _) ?_
  unfold Builtin.«sorted»
  refine wpAny_bind (m := checkCount "sorted" 1 1 _) (wpAny_pure ?_)
  refine wpAny_bind (collect_set (A := A.in1) cold ⟨o, ho, hex.1, hd⟩ hf hb hr hl fun s1 vs k1 z1 g1 o1 pm => ?_)
  have lvs : vs.length = n := by rw [pm.length_eq, List.length_map, Array.length_toList]; exact hn
  have are : IntsAre vs (vs.map Builtin.Re.reRawOf) := ints_of vs fun v hv => by
    obtain ⟨e, he, q⟩ := List.mem_map.mp (pm.mem_iff.mp hv)
    obtain ⟨k, tk, e1, _⟩ := g e he
    exact ⟨k, tk, q ▸ e1⟩
  have pk : (vs.map Builtin.Re.reRawOf).Perm (es.toList.map keyOf) := by
    have q := pm.map Builtin.Re.reRawOf
    rw [List.map_map] at q
    exact q
  have line : vs.length ≤ sizeLine := by
    rw [lvs, ← hn]
    exact fits_of_scanBound hb
  refine wpAny_bind (wpAny_newList ?_ line)
  have at1 : (s1.heap.push (seqObj "list" vs.toArray 0)).get? s1.heap.objs.size = some (seqObj "list" vs.toArray 0) := Heap.get?_push_size _ rfl
  refine wpAny_bind (wpAny_holding (wpAny_call_entry slot_list_sort ⟨_, at1, rfl⟩ entry_list_sort (list_sort_treeAny at1 are line fun out ns' a1 a2 a3 => ⟨_, rfl, ?_⟩) (args_list_sort _)))
  obtain ⟨c, hc⟩ := sortedHeap_at (vs := vs) (out := out) at1
  have pn : ns'.Perm (es.toList.map keyOf) := a2.trans pk
  refine wpAny_pure ⟨_, rfl, h _ s1.heap.objs.size out c ns' (fun b u e => ?_) g1 o1 z1 hc a1 (fun k => by rw [pn.mem_iff, ← hm k]) ?_ (pn.nodup_iff.mpr nd)⟩
  · have q := k1 b u e
    have less := Heap.lt_size q
    show (sortedHeap (s1.heap.push (seqObj "list" vs.toArray 0)) s1.heap.objs.size vs out).get? b = some u
    rw [sortedHeap_old (Nat.ne_of_lt less) (by rw [size_push']; exact Nat.lt_succ_of_lt less)]
    exact Heap.get?_push_of_some _ q
  · rw [pn.length_eq, List.length_map, Array.length_toList]
    exact hn
end
section
variable {X : Cx}
/-- set(xs) of a list of numbers from 0 to below M -/
def rSetI (K : PySem.W.Frag) (w : World) : List V → Hp → VK → Prop := fun vs H Q => ∃ (a : Addr) (xs : List Int) (M : Nat), vs = [V.ref a] ∧ SqL K H a (xs.map V.int) ∧ M + 1 < scanBound ∧ (∀ k ∈ xs, 0 ≤ k ∧ k < (M : Int)) ∧
  ∀ (p : Addr) (c : Nat), H p = none → Q (.ref p) (upd H p (SetO w p (fun j => decide (j ∈ xs)) c))
theorem cr_setI (hc : X.calm = true) : CallR X (.type "set") (rSetI X.K X.w) := by
  intro pins s σ H vs us Q I r h
  obtain ⟨a, xs, M, rfl, hl, room, hM, q⟩ := h
  rw [Vals.ref1 r]
  obtain ⟨its, rv, pl, _⟩ := I.list hl
  refine setOfInt xs M (I.ok.hd hc) pl.isList (by simpa using ints_of_vals rv) room hM fun h' tk c R old => ?_
  have free : H s.heap.objs.size = none := I.hok.fresh (Nat.le_refl _)
  exact ⟨.ref _, upd H s.heap.objs.size (SetO X.w s.heap.objs.size (fun j => decide (j ∈ xs)) c), I.laid (t' := tk) old (Nat.le_refl _) (setO_new R), rfl, q _ c free⟩
def rSortSetI (w : World) : List V → Hp → VK → Prop := fun vs H Q => ∃ (a : Addr) (S : Int → Bool) (n : Nat), vs = [V.ref a] ∧ H a = some (SetO w a S n) ∧
  ∀ (ns : List Int) (p : Addr), (∀ k : Int, k ∈ ns ↔ S k = true) → ns.Nodup → H p = none → Q (.ref p) (upd H p (.lst (ns.map V.int)))
theorem cr_sortSetI (hc : X.calm = true) : CallR X (.builtin "sorted") (rSortSetI X.w) := by
  intro pins s σ H vs us Q I r h
  obtain ⟨a, S, n, rfl, ha, q⟩ := h
  have R := setO_get I ha
  have hb : n < scanBound := by
    obtain ⟨o, es, ep, t, _, _, _, _, _, _, b, _, e, _, _⟩ := R
    rw [← e]
    exact b
  rw [Vals.ref1 r]
  refine sortedOfInt R (I.ok.hd hc) fun s' p out c ns k g o hp hg are hm hl nd => ?_
  have len : (ns.map V.int).length ≤ sizeLine := by
    rw [List.length_map, hl]
    exact fits_of_scanBound hb
  have free : H p = none := I.hok.fresh hp
  have J : Inv X pins σ (upd H p (.lst (ns.map V.int))) { s with heap := s'.heap, gens := s'.gens, drawn := s'.drawn, toks := s'.toks } :=
    I.call (ch := []) (Un.laid k hp free) (I.hok.laid k hp ⟨len, out.toList, c, vals_of_ints are, hg⟩) (by rw [g]; exact I.bare) (fun _ z => nomatch z)
  have e : s' = { s with heap := s'.heap, gens := s'.gens, drawn := s'.drawn, toks := s'.toks } := by
    cases s'
    cases s
    cases o
    rfl
  rw [e]
  exact ⟨.ref p, _, J, rfl, q ns p hm nd free⟩
end
end Wk
set_option Elab.async false
set_option linter.all false
set_option maxRecDepth 100000
set_option maxHeartbeats 4000000
/-! Patterns: how the law matches. -/
namespace LB
open PySem L2 Wk
def nx (ws : List Str) (x : It) (e k : Int) : Prop := if isGap x = true then e ≤ k ∧ k ≤ (ws.length : Int) else ∃ w, ws[e.toNat]? = some w ∧ takesW x w = true ∧ k = e + 1
theorem nx_stp {ws : List Str} {x : It} {S : Nat → Prop} {ns : List Int} (h : ∀ k : Int, k ∈ ns ↔ ∃ e : Nat, k = (e : Int) ∧ S e) (k : Int) : (∃ e ∈ ns, nx ws x e k) ↔ ∃ e : Nat, k = (e : Int) ∧ stp ws x S e := by
  unfold nx stp
  by_cases g : isGap x = true
  · simp only [if_pos g]
    constructor
    · rintro ⟨e, he, a, b⟩
      obtain ⟨i, rfl, hs⟩ := (h e).mp he
      exact ⟨k.toNat, by omega, by omega, i, by omega, hs⟩
    · rintro ⟨e, rfl, a, j, jl, hs⟩
      exact ⟨(j : Int), (h _).mpr ⟨j, rfl, hs⟩, by omega, by omega⟩
  · simp only [if_neg g]
    constructor
    · rintro ⟨e, he, w, hw, t, rfl⟩
      obtain ⟨i, rfl, hs⟩ := (h e).mp he
      exact ⟨i + 1, by omega, i, w, rfl, hs, by rw [Int.toNat_natCast] at hw; exact hw, t⟩
    · rintro ⟨e, rfl, j, w, rfl, hs, hw, t⟩
      exact ⟨(j : Int), (h _).mpr ⟨j, rfl, hs⟩, w, by rw [Int.toNat_natCast]; exact hw, t, by omega⟩
theorem inV_ints (n : Int) : ∀ ns : List Int, inV (.int n) (ns.map V.int) = decide (n ∈ ns)
  | [] => rfl
  | m :: ns => by
    have ih := inV_ints n ns
    unfold inV at ih ⊢
    rw [List.map_cons, List.any_cons, ih]
    show ((m == n) || decide (n ∈ ns)) = _
    by_cases h : n = m
    · subst h
      simp
    · have h2 : (m == n) = false := beq_false_of_ne (fun z => h z.symm)
      rw [h2, Bool.false_or]
      simp [h]
theorem flat_ints : ∀ ns : List Int, (ns.map V.int).all flatV = true
  | [] => rfl
  | m :: ns => by
    rw [List.map_cons, List.all_cons, flat_ints ns]
    rfl
def spMatched (K : PySem.W.Frag) : Sp := fun vs H Q _ => ∃ (a l : Addr) (ws : List Str) (pat : List It), vs = [.ref a, .ref l] ∧ SqL K H a (ws.map V.str) ∧ SqL K H l (pat.map vI) ∧ ws.length ≤ 200 ∧ (∀ w ∈ ws, w ≠ "") ∧
  ∀ (b : Bool) H', Same H H' → (b = true ↔ mts ws pat ws.length) → Q (.bl b) H'
section
variable {P : Program} {w : World} {K : PySem.W.Frag} {mg : Str → Option Value} {base : Heap}
theorem scMatched : FnScope ["some", "wanted", "ends", "item", "later", "end"] ["some", "wanted"] (defScope sMatched) := ⟨rfl, rfl, rfl, by decide +kernel, rfl, by decide +kernel, by decide +kernel⟩
theorem ok_matched {f : Addr} {fd : FuncData} (F : Fun K "_law_matched" "_law_matched" sMatched f fd) (mL : mg "len" = none) (mLi : mg "list" = none) (mR : mg "range" = none) (mS : mg "sorted" = none) (mT : mg "set" = none) : FnOk P w K mg base CX0 1 f fd ["some", "wanted"] (spMatched K) := by
  refine F.ok scMatched (fun vs H Q E h => ?_) (fun cdv A outer s H vs Q E hr h => ?_)
  · obtain ⟨a, l, ws, pat, rfl, _⟩ := h
    rfl
  · obtain ⟨a, l, ws, pat, rfl, ha, hl, w200, hw, k⟩ := h
    have big : 100000 ≤ sizeLine := by decide
    refine ⟨_, pss_cons (ps_set (i := 2) scMatched.nd rfl (.inl rfl) (pe_lst (pa_cons pe_int pa_nil)))
        (pss_mid (ps_for PassesOwn.never rfl (pi_list (pv 1)) (pg_name (i := 3) scMatched.nd rfl (.inl rfl))
          (pss_cons (ps_set (i := 4) scMatched.nd rfl (.inl rfl) (pe_lst pa_nil))
        (pss_mid (ps_for PassesOwn.never rfl (pi_list (pv 2)) (pg_name (i := 5) scMatched.nd rfl (.inl rfl))
          (pss_one (ps_if (pt_cmpR op_eq (pv 3) pe_str (nomark _)) (pss_one (ps_expr (pe_bm PySem.F.plainAttrs_list PySem.F.slot_list_extend PySem.F.type_list_extend mt_extend (pv 4) (pa_cons (pe_listRg rfl (by rfl) mLi (prg_2 (by rfl) mR (pv 5) (pe_op op_add (pe_callB call_len_seq (by rfl) mL PySem.boot_len (pa_cons (pv 0) pa_nil)) pe_int))) pa_nil)))) (pss_one (ps_if (PW.pt (pw_and (pt_cmpR op_lt (pv 5) (pe_callB call_len_seq (by rfl) mL PySem.boot_len (pa_cons (pv 0) pa_nil)) (nomark _)) (pw_and1 (PW.pt (pw_or (pt_cmpR op_isN (pv 3) pe_non (nomark _)) (pw_or1 (pt_cmpR op_eq (pv 3) (pe_ix ix_list (pv 0) (pv 5) (fun _ _ => rfl)) (nomark _)))))))) (pss_one (ps_expr (pe_bm PySem.F.plainAttrs_list PySem.F.slot_list_append PySem.F.type_list_append mt_append (pv 4) (pa_cons (pe_op op_add (pv 5) pe_int) pa_nil)))) pss_nil)))))
        (pss_one (ps_set (i := 2) scMatched.nd rfl (.inl rfl) (pe_callB (cr_sortSetI rfl) (by rfl) mS (by decide +kernel) (pa_cons (pe_callTy (cr_setI rfl) (by rfl) mT (by decide +kernel) (pa_cons (pv 4) pa_nil)) pa_nil)))))))
        (pss_one (ps_ret (pe_cmpR op_in_seq (pe_callB call_len_seq (by rfl) mL PySem.boot_len (pa_cons (pv 0) pa_nil)) (pv 2) (by rfl))))), ?_⟩
    refine ⟨by show 1 ≤ sizeLine; omega, fun e0 ne0 => ?_⟩
    have s0 := same_more (x := .lst [.int 0]) (Same.refl H) ne0
    refine ⟨fun τ G => ∃ (e : Addr) (ns : List Int) (x3 x4 x5 : Option V), τ = [some (.ref a), some (.ref l), some (.ref e), x3, x4, x5] ∧ G e = some (.lst (ns.map V.int)) ∧ (∀ k : Int, k ∈ ns ↔ ∃ e : Nat, k = (e : Int) ∧ mts ws pat e) ∧ Same H G, ?_, ?_⟩
    · refine ⟨_, rfl, l, rfl, ⟨_, s0.seq hl⟩, for_list (K := K) (a := l) (xs := pat.map vI) (fun i σ G => ∃ (e : Addr) (ns : List Int) (x3 x4 x5 : Option V), σ = [some (.ref a), some (.ref l), some (.ref e), x3, x4, x5] ∧ G e = some (.lst (ns.map V.int)) ∧ (∀ k : Int, k ∈ ns ↔ ∃ e : Nat, k = (e : Int) ∧ mts ws (pat.take i) e) ∧ ns.Nodup ∧ Same H G)
        ⟨e0, [0], none, none, none, rfl, upd_same, fun k => ?_, by simp, s0⟩ (fun i σ G _ ⟨_, _, _, _, _, _, _, _, _, s⟩ => s.seq hl) ?_ ?_⟩
      · rw [List.mem_singleton, List.take_zero]
        exact ⟨fun h => ⟨0, h, rfl⟩, fun ⟨e, h, z⟩ => by
          have z : e = 0 := z
          rw [h, z]
          rfl⟩
      · rintro i y σ G hi ⟨e, ns, x3, x4, x5, rfl, he, mem, nd, sG⟩
        obtain ⟨x, hx, rfl⟩ := it_at hi
        have lns : ns.length ≤ 201 := int_cover 201 ns nd fun k hk => by
          obtain ⟨j, rfl, hj⟩ := (mem k).mp hk
          have := mts_le ws _ j hj
          omega
        refine ⟨by show 0 ≤ sizeLine; omega, fun q nq => ?_⟩
        have eq : e ≠ q := ne_of_none he nq
        refine ⟨fun τ J => ∃ (ms : List Int) (x5 : Option V), τ = [some (.ref a), some (.ref l), some (.ref e), some (vI x), some (.ref q), x5] ∧ J q = some (.lst (ms.map V.int)) ∧ (∀ k : Int, k ∈ ms ↔ ∃ e ∈ ns, nx ws x e k) ∧ Same G J, ?_, ?_⟩
        · refine ⟨_, rfl, e, rfl, ⟨_, SqL.of (upd_keep he nq)⟩, for_list (K := K) (a := e) (xs := ns.map V.int) (fun j σ J => ∃ (ms : List Int) (x5 : Option V), σ = [some (.ref a), some (.ref l), some (.ref e), some (vI x), some (.ref q), x5] ∧ J q = some (.lst (ms.map V.int)) ∧ ms.length ≤ 201 * j ∧ (∀ k : Int, k ∈ ms ↔ ∃ e ∈ ns.take j, nx ws x e k) ∧ Same G J)
            ⟨[], x5, rfl, upd_same, by simp, fun k => by simp, same_new nq⟩ (fun j σ J _ ⟨_, _, _, _, _, _, s⟩ => SqL.of (s _ _ he)) ?_ ?_⟩
          · rintro j y σ J hj ⟨ms, x5, rfl, hq, lm, mm, sJ⟩
            obtain ⟨n, hn, rfl⟩ : ∃ n, ns[j]? = some n ∧ y = .int n := by
              rw [List.getElem?_map] at hj
              cases c : ns[j]? with
              | none => rw [c] at hj; cases hj
              | some n => rw [c] at hj; exact ⟨n, rfl, (Option.some.inj hj).symm⟩
            have jl := (List.getElem?_eq_some_iff.mp hn).1
            obtain ⟨n', rfl, hn'⟩ := (mem n).mp (List.mem_of_getElem? hn)
            have nl := mts_le ws _ n' hn'
            have sHJ := Same.trans sG sJ
            have hs := sHJ.seq ha
            have tk : ∀ k : Int, (∃ e ∈ ns.take (j + 1), nx ws x e k) ↔ (∃ e ∈ ns.take j, nx ws x e k) ∨ nx ws x (n' : Int) k := by
              intro k
              rw [List.take_add_one, hn]
              simp only [List.mem_append, Option.toList_some, List.mem_singleton]
              constructor
              · rintro ⟨e, h | rfl, p⟩
                · exact .inl ⟨e, h, p⟩
                · exact .inr p
              · rintro (⟨e, h, p⟩ | p)
                · exact ⟨e, .inl h, p⟩
                · exact ⟨_, .inr rfl, p⟩
            have app : (∀ k : Int, nx ws x (n' : Int) k ↔ k = (n' : Int) + 1) → ∃ (ms' : List Int) (y5 : Option V), [some (V.ref a), some (V.ref l), some (V.ref e), some (vI x), some (V.ref q), some (V.int (n' : Int))] = [some (.ref a), some (.ref l), some (.ref e), some (vI x), some (.ref q), y5] ∧ upd J q (.lst (ms.map V.int ++ [V.int ((n' : Int) + 1)])) q = some (.lst (ms'.map V.int)) ∧ ms'.length ≤ 201 * (j + 1) ∧ (∀ k : Int, k ∈ ms' ↔ ∃ e ∈ ns.take (j + 1), nx ws x e k) ∧ Same G (upd J q (.lst (ms.map V.int ++ [V.int ((n' : Int) + 1)]))) := fun h => by
              refine ⟨ms ++ [(n' : Int) + 1], _, rfl, ?_, ?_, fun k => ?_, fun r o e' => ?_⟩
              · rw [upd_same, List.map_append]
                rfl
              · rw [List.length_append]
                show ms.length + 1 ≤ _
                omega
              · rw [tk, ← mm k, h k, List.mem_append, List.mem_singleton]
              · rw [upd_ne (ne_of_none e' nq)]
                exact sJ _ _ e'
            have skip : (∀ k : Int, ¬ nx ws x (n' : Int) k) → ∃ (ms' : List Int) (y5 : Option V), [some (V.ref a), some (V.ref l), some (V.ref e), some (vI x), some (V.ref q), some (V.int (n' : Int))] = [some (.ref a), some (.ref l), some (.ref e), some (vI x), some (.ref q), y5] ∧ J q = some (.lst (ms'.map V.int)) ∧ ms'.length ≤ 201 * (j + 1) ∧ (∀ k : Int, k ∈ ms' ↔ ∃ e ∈ ns.take (j + 1), nx ws x e k) ∧ Same G J := fun h =>
              ⟨ms, _, rfl, hq, by omega, fun k => by rw [tk, mm k]; exact ⟨.inl, fun z => z.elim id fun z => absurd z (h k)⟩, sJ⟩
            have lenq : (ms.map V.int).length < sizeLine := by
              rw [List.length_map]
              omega
            by_cases hg : isGap x = true
            · have ex : x = gp := eq_of_beq hg
              refine ⟨_, rfl, scal_it x gp, _, rfl, ite2 (fun _ => ?_) (fun c => absurd (decide_eq_true (by rw [ex]; rfl)) c)⟩
              refine ⟨_, rfl, .inl ⟨rfl, _, SqL.of hq⟩, _, rfl, _, rfl, a, _, rfl, .inl hs, _, _, rfl, rfl, _, _, rfl, rfl, RgOk.of_le (by omega) (by rw [List.length_map]; omega) (by omega) (by omega), fun u nu => ?_⟩
              obtain ⟨rl, hrl⟩ : ∃ rl : List Int, rl = (List.range ((((ws.map V.str).length : Nat) : Int) + 1 - (n' : Int)).toNat).map fun i => (n' : Int) + (i : Nat) := ⟨_, rfl⟩
              have er : rgV (n' : Int) ((((ws.map V.str).length : Nat) : Int) + 1) = rl.map V.int := by
                rw [hrl, List.map_map]
                rfl
              have rll : rl.length ≤ 201 := by
                rw [hrl, List.length_map, List.length_range, List.length_map]
                omega
              have rm : ∀ k : Int, k ∈ rl ↔ nx ws x (n' : Int) k := fun k => by
                unfold nx
                rw [if_pos hg, hrl, List.mem_map]
                constructor
                · rintro ⟨i, hi, rfl⟩
                  have := List.mem_range.mp hi
                  rw [List.length_map] at this
                  omega
                · rintro ⟨h1, h2⟩
                  exact ⟨(k - (n' : Int)).toNat, List.mem_range.mpr (by rw [List.length_map]; omega), by omega⟩
              refine ⟨q, u, _, _, rfl, rfl, upd_keep hq nu, upd_same, ?_, ms ++ rl, _, rfl, ?_, ?_, fun k => ?_, fun r o e' => ?_⟩
              · rw [er, List.length_map, List.length_map]
                omega
              · rw [upd_same, er, List.map_append]
              · rw [List.length_append]
                omega
              · rw [tk, ← mm k, ← rm k, List.mem_append]
              · rw [upd_ne (ne_of_none e' nq)]
                exact upd_keep (sJ _ _ e') nu
            · have nex : x ≠ gp := fun z => hg (by rw [z]; rfl)
              refine ⟨_, rfl, scal_it x gp, _, rfl, ite2 (fun c => absurd (vI_inj.mp (of_decide_eq_true c)) nex) (fun _ => ?_)⟩
              have nxe : ∀ k : Int, nx ws x (n' : Int) k ↔ ∃ w, ws[n']? = some w ∧ takesW x w = true ∧ k = (n' : Int) + 1 := fun k => by
                unfold nx
                rw [if_neg hg, Int.toNat_natCast]
              refine ⟨_, rfl, _, rfl, a, _, rfl, .inl hs, _, _, rfl, rfl, _, rfl, ite2 (fun c1 => ?_) (fun c1 => ?_)⟩
              · have nlt : n' < ws.length := by
                  have z : (n' : Int) < (((ws.map V.str).length : Nat) : Int) := of_decide_eq_true c1
                  rw [List.length_map] at z
                  omega
                obtain ⟨w, hw2⟩ : ∃ w, ws[n']? = some w := ⟨_, List.getElem?_eq_getElem nlt⟩
                have nxw : ∀ k : Int, nx ws x (n' : Int) k ↔ takesW x w = true ∧ k = (n' : Int) + 1 := fun k => by
                  rw [nxe]
                  exact ⟨fun ⟨w', h, t, e⟩ => by rw [hw2] at h; cases h; exact ⟨t, e⟩, fun ⟨t, e⟩ => ⟨w, hw2, t, e⟩⟩
                refine ⟨_, rfl, rfl, _, rfl, ite2 (fun c2 => ?_) (fun c2 => ?_)⟩
                · have xn : x = none := by
                    cases x with
                    | none => rfl
                    | some s => cases of_decide_eq_true c2
                  refine ⟨_, rfl, .inl ⟨rfl, _, SqL.of hq⟩, _, rfl, _, _, rfl, rfl, q, _, _, rfl, rfl, hq, lenq, ?_⟩
                  exact app fun k => by rw [nxw, xn]; exact ⟨fun h => h.2, fun h => ⟨rfl, h⟩⟩
                · refine ⟨_, rfl, _, rfl, _, rfl, a, _, _, _, rfl, rfl, hs, atI_nat (v := .str w) (by rw [List.getElem?_map, hw2]; rfl), scal_it x (some w), _, rfl, ite2 (fun c3 => ?_) (fun c3 => ?_)⟩
                  · have xw : x = some w := vI_inj.mp (of_decide_eq_true c3)
                    refine ⟨_, rfl, .inl ⟨rfl, _, SqL.of hq⟩, _, rfl, _, _, rfl, rfl, q, _, _, rfl, rfl, hq, lenq, ?_⟩
                    refine app fun k => ?_
                    rw [nxw]
                    have t : takesW x w = true := by
                      unfold takesW
                      rw [Bool.eq_false_iff.mpr hg, xw]
                      simp
                    exact ⟨fun h => h.2, fun h => ⟨t, h⟩⟩
                  · refine skip fun k h => ?_
                    rw [nxw] at h
                    have t := h.1
                    unfold takesW at t
                    rw [Bool.or_eq_true, Bool.and_eq_true] at t
                    rcases t with t | ⟨t, _⟩
                    · have xn : x = none := eq_of_beq t
                      exact c2 (decide_eq_true (by rw [xn]; rfl))
                    · have xw : x = some w := eq_of_beq t
                      exact c3 (decide_eq_true (by rw [xw]; rfl))
              · refine ite2 (fun z => by cases z) (fun _ => ?_)
                refine skip fun k h => ?_
                obtain ⟨w, h1, _⟩ := (nxe k).mp h
                have := (List.getElem?_eq_some_iff.mp h1).1
                exact c1 (decide_eq_true (by rw [List.length_map]; omega))
          · rintro σ J ⟨ms, x5, rfl, hq, lm, mm, sJ⟩
            rw [List.length_map, List.take_length] at mm
            exact ⟨ms, x5, rfl, hq, mm, sJ⟩
        rintro τ J ⟨ms, x5, rfl, hq, mm, sJ⟩
        have mst : ∀ k : Int, k ∈ ms ↔ ∃ e : Nat, k = (e : Int) ∧ mts ws (pat.take (i + 1)) e := fun k => by
          rw [mm, nx_stp mem, take_snoc hx, mts_snoc]
        refine ⟨_, rfl, q, ms, 201, rfl, SqL.of hq, by decide, fun k hk => ?_, fun st c nst => ?_⟩
        · obtain ⟨j, rfl, hj⟩ := (mst k).mp hk
          have := mts_le ws _ j hj
          omega
        refine ⟨st, _, c, rfl, upd_same, fun ns' p mem' nd' np => ?_⟩
        refine ⟨p, ns', _, _, _, rfl, upd_same, fun k => ?_, nd', same_more (same_more (Same.trans sG sJ) nst) np⟩
        rw [mem' k, decide_eq_true_iff]
        exact mst k
      · rintro σ G ⟨e, ns, x3, x4, x5, rfl, he, mem, nd, sG⟩
        rw [List.length_map, List.take_length] at mem
        exact ⟨e, ns, x3, x4, x5, rfl, he, mem, sG⟩
    rintro τ G ⟨e, ns, x3, x4, x5, rfl, he, mem, sG⟩
    refine ⟨_, rfl, a, _, rfl, .inl (sG.seq ha), _, rfl, e, _, rfl, .inl (SqL.of he), rfl, flat_ints ns, ?_⟩
    · rw [List.length_map]
      show Q (.bl (inV (.int (ws.length : Int)) (ns.map V.int))) G
      rw [inV_ints]
      refine k _ G sG ?_
      rw [decide_eq_true_iff, mem]
      exact ⟨fun ⟨e, h, z⟩ => by rw [show ws.length = e by omega]; exact z, fun h => ⟨_, rfl, h⟩⟩

end
end LB
set_option Elab.async false
set_option linter.all false
set_option maxRecDepth 100000
set_option maxHeartbeats 4000000
/-! Family D: the kind of a caught error. -/
namespace LB
open PySem L2 Wk
def kindD : Nat → Str
  | 0 => "table"
  | 1 => "number"
  | 2 => "words"
  | 3 => "range"
  | 4 => "undo"
  | _ => "read"
def spKindD (cs : List Addr) : Sp := fun vs H Q _ => ∃ (a : Addr) (i : Nat) (C : Addr) (v : V), vs = [.ref a] ∧ cs[i]? = some C ∧ i < 6 ∧ Caught H C a v ∧ ∀ H' : Hp, Same H H' → Q (.str (kindD i)) H'
section
variable {P : Program} {w : World} {K : PySem.W.Frag} {mg : Str → Option Value} {base : Heap}
end
end LB
set_option Elab.async false
set_option linter.all false
set_option maxRecDepth 100000
set_option maxHeartbeats 4000000
/-! Family D: tables with a wrong word. -/
namespace LB
open PySem L2 Wk
theorem fb_at {a b : List Str} {x : Str} (nd : a.Nodup) (g : ∀ y ∈ a, GoodWord y) (hx : x ∈ a ∨ goodB x = false) : firstBad [] (a ++ x :: b) = some (.str x) := by
  rw [firstBad_split a [] (x :: b) (firstBad_good (by rw [List.nil_append]; exact nd) g), List.nil_append, firstBad_cons, if_pos hx]
theorem fault_of {ones tens : List Str} {hun : Str} {scales : List Str} (h1 : ones.length = 20) (h2 : tens.length = 8) : fault ones tens hun scales = firstBad [] (ones ++ (tens ++ hun :: scales)) := by
  unfold fault
  rw [if_neg]
  rintro (h | h)
  · exact h h1
  · exact h h2
theorem set_split {l : List Str} {i : Nat} {x : Str} (h : i < l.length) : l.set i x = l.take i ++ x :: l.drop (i + 1) := List.set_eq_take_append_cons_drop.trans (if_pos h)
def spBadBook : Sp := fun vs H Q _ => ∃ (p t : Addr) (d s c : Int) (o te sc : Addr) (ones tens : List Str) (hun : Str) (scales : List Str), vs = [.ref p, .ref t] ∧ RngAtD H p d s c ∧ c < 2 ^ 29 ∧ TabAt H t ones tens hun scales o te sc ∧
  ones.length = 20 ∧ tens.length = 8 ∧ scales.length ≤ 20 ∧ GoodRow (ones ++ (tens ++ hun :: scales)) ∧
  ∀ (L t2 o2 te2 sc2 : Addr) (ones2 tens2 : List Str) (hun2 : Str) (scales2 : List Str) (bad : V) (d' c' : Int) (H' : Hp), H L = none → H' L = some (.lst [.ref t2, bad]) → H t2 = none → TabAt H' t2 ones2 tens2 hun2 scales2 o2 te2 sc2 →
    ones2.length ≤ 20 → tens2.length ≤ 9 → scales2.length ≤ 21 → (∀ x ∈ ones2 ++ (tens2 ++ hun2 :: scales2), tame x = true) → fault ones2 tens2 hun2 scales2 = some bad → RngAtD H' p d' s c' → c' ≤ c + 10 → KeepP p H H' → Q (.ref L) H'
theorem K5' {p : Addr} {H G I : Hp} (k : KeepP p H G) (s : Same G I) : KeepP p H I := k.trans (KeepP.of s)
theorem ixN_of {n k : Nat} (h : k < n) : ixN n (k : Int) = some k := by
  unfold ixN
  rw [if_pos (by omega), if_pos (by omega), Int.toNat_natCast]
def badsD : List Str := ["", "Two", "a b", "x1", ⟨(List.replicate (21 : Int).toNat ("q" : Str).cps).foldl (· ++ ·) #[]⟩, "-"]
theorem badsD_ok : ∀ x ∈ badsD, goodB x = false ∧ tame x = true := by decide +kernel
section
variable {P : Program} {w : World} {K : PySem.W.Frag} {mg : Str → Option Value} {base : Heap}
end
end LB
set_option Elab.async false
set_option linter.all false
set_option maxRecDepth 100000
set_option maxHeartbeats 4000000
/-! Family D: powers of 1000, the words of a number. -/
namespace LB
open PySem L2 Wk
open Bg (Bg Wo)
def spPower : Sp := fun vs H Q _ => ∃ n : Nat, vs = [.int (n : Int)] ∧ n ≤ 30 ∧ Q (.int (Bg.W n)) H
theorem W_big : ∀ n : Nat, n ≤ 30 → (Bg.W n).natAbs < 2 ^ 400 := by
  have h : ∀ n : Fin 31, (Bg.W n.1).natAbs < 2 ^ 400 := by decide +kernel
  exact fun n hn => h ⟨n, by omega⟩
def spWordsD : Sp := fun vs H Q _ => ∃ (t o te sc : Addr) (ones tens : List Str) (hun : Str) (scales : List Str) (n : Int), vs = [.ref t, .int n] ∧ TabAt H t ones tens hun scales o te sc ∧ ones.length = 20 ∧ tens.length = 8 ∧ scales.length ≤ 20 ∧ 0 ≤ n ∧ n < Bg.W (scales.length + 1) ∧
  ∀ p H', H p = none → Same H H' → H' p = some (.lst (((Bg.nameW n (scales.length + 1)).map (wd ones tens hun scales)).map V.str)) → Q (.ref p) H'
theorem parts4 {g : Int} {i : Nat} (g0 : 0 ≤ g) : (if g > 0 then Bg.groupW g ++ (if i > 0 then [Wo.sc (i - 1)] else []) else []) =
    (((if g / 100 > 0 then [Wo.low (g / 100), Wo.hun] else []) ++ (if 0 < g % 100 ∧ g % 100 < 20 then [Wo.low (g % 100)] else [])) ++ (if g % 100 > 19 then Wo.low (10 * (g % 100 / 10)) :: (if g % 100 % 10 > 0 then [Wo.low (g % 100 % 10)] else []) else [])) ++ (if g > 0 ∧ i > 0 then [Wo.sc (i - 1)] else []) := by
  by_cases a1 : g > 0
  · rw [if_pos a1]
    have d : (if g > 0 ∧ i > 0 then [Wo.sc (i - 1)] else []) = (if i > 0 then [Wo.sc (i - 1)] else []) := by
      by_cases h : i > 0
      · rw [if_pos h, if_pos ⟨a1, h⟩]
      · rw [if_neg h, if_neg fun z => h z.2]
    rw [d]
    unfold Bg.groupW
    refine congrArg (fun z => z ++ (if i > 0 then [Wo.sc (i - 1)] else [])) ?_
    rw [List.append_assoc]
    refine congrArg (fun z => (if g / 100 > 0 then [Wo.low (g / 100), Wo.hun] else []) ++ z) ?_
    by_cases r2 : g % 100 ≥ 20
    · rw [if_pos r2, if_neg (show ¬ (0 < g % 100 ∧ g % 100 < 20) from fun z => by omega), if_pos (show g % 100 > 19 by omega), List.nil_append]
    · rw [if_neg r2]
      by_cases r1 : g % 100 > 0
      · rw [if_pos r1, if_pos (show 0 < g % 100 ∧ g % 100 < 20 from ⟨r1, by omega⟩), if_neg (show ¬ g % 100 > 19 by omega), List.append_nil]
      · rw [if_neg r1, if_neg (show ¬ (0 < g % 100 ∧ g % 100 < 20) from fun z => r1 z.1), if_neg (show ¬ g % 100 > 19 by omega), List.append_nil]
  · have e : g = 0 := by omega
    subst e
    rw [if_neg a1, if_neg (by decide), if_neg (by decide), if_neg (by decide), if_neg (fun z => a1 z.1)]
    rfl
section
variable {P : Program} {w : World} {K : PySem.W.Frag} {mg : Str → Option Value} {base : Heap}
theorem scPower : FnScope ["many", "found", "turn"] ["many"] (defScope sPower) := ⟨rfl, rfl, rfl, by decide +kernel, rfl, by decide +kernel, by decide +kernel⟩
theorem ok_power {f : Addr} {fd : FuncData} (F : Fun K "_law_power" "_law_power" sPower f fd) (mR : mg "range" = none) : FnOk P w K mg base CX0 1 f fd ["many"] spPower := by
  refine F.ok scPower (fun vs H Q E h => ?_) (fun cdv A outer s H vs Q E hr h => ?_)
  · obtain ⟨n, rfl, _⟩ := h
    rfl
  · obtain ⟨n, rfl, n30, k⟩ := h
    refine ⟨_, pss_cons (ps_set (i := 1) scPower.nd rfl (.inl rfl) pe_int)
        (pss_cons (ps_for PassesOwn.never rfl (pi_range1 rfl mR (pa_cons (pv 0) pa_nil)) (pg_name (i := 2) scPower.nd rfl (.inl rfl)) (pss_one (ps_set (i := 1) scPower.nd rfl (.inl rfl) (pe_op op_mulW (pv 1) pe_int))))
        (pss_one (ps_ret (pv 1)))), ?_⟩
    refine ⟨_, rfl, (n : Int), rfl, by omega, by omega, for_range (lo := 0) (n := ((n : Nat) : Int).toNat) (fun i σ G => G = H ∧ ∃ x : Option V, σ = [some (.int (n : Int)), some (.int (Bg.W i)), x]) ⟨rfl, none, rfl⟩ ?_ ?_⟩
    · rintro i σ G hi ⟨rfl, x, rfl⟩
      have b := W_big i (by omega)
      refine ⟨_, rfl, _, _, rfl, rfl, wide_mul b (show (1000 : Int).natAbs < 2 ^ 10 by decide) (by decide) (by decide) (by decide), rfl, some (.int (0 + (i : Int))), ?_⟩
      rw [Bg.W_succ, Int.mul_comm]
      rfl
    · rintro σ G ⟨rfl, x, rfl⟩
      rw [Int.toNat_natCast]
      exact ⟨_, rfl, k⟩
theorem scWordsD : FnScope ["book", "value", "ones", "tens", "hundred", "scales", "found", "size", "group", "rest"] ["book", "value"] (defScope sWords) := ⟨rfl, rfl, rfl, by decide +kernel, rfl, by decide +kernel, by decide +kernel⟩
theorem ok_wordsD {f fP : Addr} {fd dP : FuncData} (F : Fun K "_law_words" "_law_words" sWords f fd) (Pw : Def1 P w K mg base "_law_power" 1 fP dP ["many"] spPower) (mL : mg "len" = none) (mI : mg "int" = none) : FnOk P w K mg base CX0 2 f fd ["book", "value"] spWordsD := by
  refine F.ok scWordsD (fun vs H Q E h => ?_) (fun cdv A outer s H vs Q E hr h => ?_)
  · obtain ⟨t, o, te, sc, ones, tens, hun, scales, n, rfl, _⟩ := h
    rfl
  · obtain ⟨t, o, te, sc, ones, tens, hun, scales, n, rfl, TA, l1, l2, l3, n0, n1, k⟩ := h
    have hr1 : Room 1 _ := hr
    refine ⟨_, pss_cons (ps_asg (pv 0) (pg_tup (by rfl) (pgs_cons (pg_name (i := 2) scWordsD.nd rfl (.inl rfl)) (pgs_cons (pg_name (i := 3) scWordsD.nd rfl (.inl rfl)) (pgs_cons (pg_name (i := 4) scWordsD.nd rfl (.inl rfl)) (pgs_cons (pg_name (i := 5) scWordsD.nd rfl (.inl rfl)) pgs_nil))))))
        (pss_cons (ps_if (pt_cmpR op_eq (pv 1) pe_int (nomark _)) (pss_one (ps_ret (pe_lst (pa_cons (pe_ix ix_list (pv 2) pe_int (fun _ _ => rfl)) pa_nil)))) pss_nil)
        (pss_mid (ps_par (i := 6) (j := 7) (by rfl) scWordsD.nd rfl rfl (by decide) rfl rfl (pa_cons (pe_lst pa_nil) (pa_cons (pe_callB call_len_seq (by rfl) mL PySem.boot_len (pa_cons (pv 5) pa_nil)) pa_nil)) (by rfl))
        (pss_cons (ps_while PassesOwn.never (pt_cmpR op_ge (pv 7) pe_int (nomark _)) (pss_mid (ps_set (i := 8) scWordsD.nd rfl (.inl rfl) (pe_op op_mod (pe_op op_fdivW (pv 1) (pe_call Pw.ok hr1 (by rfl) Pw.g Pw.k Pw.b .nil pass0 (pa_cons (pv 7) pa_nil))) pe_int))
        (pss_cons (ps_set (i := 9) scWordsD.nd rfl (.inl rfl) (pe_op op_mod (pv 8) pe_int))
        (pss_mid (ps_if (pt_cmpR op_gt (pv 8) pe_int (nomark _)) (pss_one (ps_set (i := 6) scWordsD.nd rfl (.inl rfl) (pe_op op_cat (pv 6) (pe_lst (pa_cons (pe_ix ix_list (pv 2) (pe_op op_fdiv (pv 8) pe_int) (fun _ _ => rfl)) (pa_cons (pv 4) pa_nil)))))) pss_nil)
        (pss_mid (ps_if (pt_chain op_lt op_lt pe_int (pv 9) pe_int) (pss_one (ps_set (i := 6) scWordsD.nd rfl (.inl rfl) (pe_op op_cat (pv 6) (pe_lst (pa_cons (pe_ix ix_list (pv 2) (pv 9) (fun _ _ => rfl)) pa_nil))))) pss_nil)
        (pss_mid (ps_if (pt_cmpR op_gt (pv 9) pe_int (nomark _)) (pss_cons (ps_set (i := 6) scWordsD.nd rfl (.inl rfl) (pe_op op_cat (pv 6) (pe_lst (pa_cons (pe_ix ix_list (pv 3) (pe_op op_sub (pe_op op_fdiv (pv 9) pe_int) pe_int) (fun _ _ => rfl)) pa_nil))))
        (pss_one (ps_set (i := 6) scWordsD.nd rfl (.inl rfl) (pe_op op_cat (pv 6) (pe_op op_rep (pe_lst (pa_cons (pe_ix ix_list (pv 2) (pe_op op_mod (pv 9) pe_int) (fun _ _ => rfl)) pa_nil)) (pe_callTy call_int1 (by rfl) mI (by decide +kernel) (pa_cons (pe_cmpR op_gt (pe_op op_mod (pv 9) pe_int) pe_int (nomark _)) pa_nil))))))) pss_nil)
        (pss_mid (ps_if (PW.pt (pw_and (pt_cmpR op_gt (pv 8) pe_int (nomark _)) (pw_and1 (pt_cmpR op_gt (pv 7) pe_int (nomark _))))) (pss_one (ps_set (i := 6) scWordsD.nd rfl (.inl rfl) (pe_op op_cat (pv 6) (pe_lst (pa_cons (pe_ix ix_list (pv 5) (pe_op op_sub (pv 7) pe_int) (fun _ _ => rfl)) pa_nil))))) pss_nil)
        (pss_one (ps_set (i := 7) scWordsD.nd rfl (.inl rfl) (pe_op op_sub (pv 7) pe_int))))))))))
        (pss_one (ps_ret (pv 6)))))), ?_⟩
    have big : 3000 ≤ sizeLine := by decide
    refine ⟨_, rfl, t, _, rfl, SqT.of TA.tup, rfl, _, _, rfl, _, _, rfl, _, _, rfl, _, _, rfl, rfl, ?_⟩
    refine ⟨_, rfl, rfl, _, rfl, ite2 (fun z => ?_) (fun z => ?_)⟩
    · have z0 : n = 0 := V.int.inj (of_decide_eq_true z)
      subst z0
      refine ⟨_, rfl, o, _, _, _, rfl, rfl, SqL.of TA.lo, wd_one (tens := tens) (hun := hun) (scales := scales) l1 (by decide) (by decide), by show 1 ≤ sizeLine; omega, fun p np => ?_⟩
      exact k p _ np (same_more (Same.refl H) np) upd_same
    have nz : n ≠ 0 := fun e => z (decide_eq_true (by rw [e]))
    refine ⟨fun τ G => ∃ p : Addr, τ = [some (.ref t), some (.int n), some (.ref o), some (.ref te), some (.str hun), some (.ref sc), some (.ref p), some (.int (scales.length : Nat)), none, none] ∧ G p = some (.lst []) ∧ H p = none ∧ Same H G, ?_, ?_⟩
    · refine ⟨by show 0 ≤ sizeLine; omega, fun p np => ?_⟩
      have s1 := same_more (x := .lst []) (Same.refl H) np
      refine ⟨_, rfl, sc, _, rfl, .inl (SqL.of (s1 _ _ TA.ls)), _, _, rfl, p, ?_, upd_same, np, s1⟩
      rw [List.length_map]
      rfl
    rintro τ G0 ⟨p0, rfl, hp0, np0, s0⟩
    generalize hname : (Bg.spW n (scales.length + 1)).map (wd ones tens hun scales) = name
    refine while_by (fun σ G => ∃ (s : Int) (q : Addr) (ws : List Str) (x8 x9 : Option V), σ = [some (.ref t), some (.int n), some (.ref o), some (.ref te), some (.str hun), some (.ref sc), some (.ref q), some (.int s), x8, x9] ∧ -1 ≤ s ∧ s ≤ (scales.length : Nat) ∧ G q = some (.lst (ws.map V.str)) ∧ H q = none ∧ Same H G ∧
      ws ++ (Bg.spW n (s + 1).toNat).map (wd ones tens hun scales) = name ∧ (ws.length : Int) ≤ 6 * ((scales.length : Nat) - s))
      (fun σ _ => match σ with | [_, _, _, _, _, _, _, some (.int x), _, _] => (x + 1).toNat | _ => 0)
      ⟨(scales.length : Nat), p0, [], none, none, rfl, by omega, by omega, hp0, np0, s0, by rw [← hname, show (((scales.length : Nat) : Int) + 1).toNat = scales.length + 1 by omega]; rfl, by simp⟩ ?_ ?_
    · rintro σ G ⟨s, q, ws, x8, x9, rfl, s1, s2, hq, nq, sG, en, wl⟩
      refine ⟨_, rfl, _, _, rfl, rfl, _, rfl, ite2 (fun c => ?_) (fun c => ?_)⟩
      · have c0 : s ≥ 0 := of_decide_eq_true c
        obtain ⟨i, rfl⟩ : ∃ i : Nat, s = (i : Int) := ⟨s.toNat, by omega⟩
        obtain ⟨g0, g9⟩ := Bg.gr_bnd n i
        obtain ⟨f, hf⟩ : ∃ f, f = wd ones tens hun scales := ⟨_, rfl⟩
        have f1 : ∀ {n : Int}, 0 ≤ n → n < 20 → atI (ones.map V.str) n = some (.str (f (.low n))) := fun h0 h1 => by rw [hf]; exact wd_one l1 h0 h1
        have f2 : ∀ {k : Int}, 2 ≤ k → k ≤ 9 → atI (tens.map V.str) (k - 2) = some (.str (f (.low (10 * k)))) := fun h0 h1 => by rw [hf]; exact wd_ten l2 h0 h1
        have f3 : hun = f .hun := by rw [hf]; rfl
        have f4 : ∀ {i : Nat}, i < scales.length → atI (scales.map V.str) (i : Int) = some (.str (f (.sc i))) := fun h => by rw [hf]; exact wd_sc h
        refine ⟨fun τ G' => τ = [some (.ref t), some (.int n), some (.ref o), some (.ref te), some (.str hun), some (.ref sc), some (.ref q), some (.int (i : Int)), some (.int (Bg.gr n i)), x9] ∧ G' = G, ?_, ?_⟩
        · exact ⟨_, rfl, _, rfl, i, rfl, by omega, _, _, rfl, rfl, wide_div (Bg.W_pos i) (W_big i (by omega)) (by decide) (by decide), _, _, rfl, rfl, (by show (0 : Int) < 1000; decide), rfl, rfl⟩
        rintro τ G' ⟨rfl, rfl⟩
        refine ⟨_, rfl, _, _, rfl, rfl, (by show (0 : Int) < 100; decide), ?_⟩
        have step : Bg.spW n (((i : Int) + 1).toNat) = Bg.partW n i ++ Bg.spW n i := by
          rw [show (((i : Int) + 1).toNat) = i + 1 by omega]
          rfl
        rw [step, List.map_append, ← hf, ← List.append_assoc] at en
        unfold Bg.partW at en
        generalize Bg.gr n i = g at g0 g9 en
        have lo : ∀ {G : Hp}, Same H G → SqL K G o (ones.map V.str) := fun s => SqL.of (s _ _ TA.lo)
        have lt : ∀ {G : Hp}, Same H G → SqL K G te (tens.map V.str) := fun s => SqL.of (s _ _ TA.lt)
        have ls : ∀ {G : Hp}, Same H G → SqL K G sc (scales.map V.str) := fun s => SqL.of (s _ _ TA.ls)
        have wl2 : ws.length ≤ 200 := by omega
        obtain ⟨pA, hA⟩ : ∃ p, p = (if g / 100 > 0 then [Wo.low (g / 100), Wo.hun] else []).map f := ⟨_, rfl⟩
        obtain ⟨pB, hB⟩ : ∃ p, p = (if 0 < g % 100 ∧ g % 100 < 20 then [Wo.low (g % 100)] else []).map f := ⟨_, rfl⟩
        obtain ⟨pC, hC⟩ : ∃ p, p = (if g % 100 > 19 then Wo.low (10 * (g % 100 / 10)) :: (if g % 100 % 10 > 0 then [Wo.low (g % 100 % 10)] else []) else []).map f := ⟨_, rfl⟩
        obtain ⟨pD, hD⟩ : ∃ p, p = (if g > 0 ∧ i > 0 then [Wo.sc (i - 1)] else []).map f := ⟨_, rfl⟩
        have all4 : (if g > 0 then Bg.groupW g ++ (if i > 0 then [Wo.sc (i - 1)] else []) else []).map f = ((pA ++ pB) ++ pC) ++ pD := by
          rw [hA, hB, hC, hD, ← List.map_append, ← List.map_append, ← List.map_append]
          exact congrArg _ (parts4 g0)
        have lA : pA.length ≤ 2 := by rw [hA, List.length_map]; split <;> simp
        have lB : pB.length ≤ 1 := by rw [hB, List.length_map]; split <;> simp
        have lC : pC.length ≤ 2 := by
          rw [hC, List.length_map]
          split
          · rw [List.length_cons]
            split <;> simp
          · simp
        have lD : pD.length ≤ 1 := by rw [hD, List.length_map]; split <;> simp
        -- hundred
        refine ⟨fun τ G => ∃ q' : Addr, τ = [some (.ref t), some (.int n), some (.ref o), some (.ref te), some (.str hun), some (.ref sc), some (.ref q'), some (.int (i : Int)), some (.int g), some (.int (g % 100))] ∧ G q' = some (.lst ((ws ++ pA).map V.str)) ∧ H q' = none ∧ Same H G, ?_, ?_⟩
        · refine ⟨_, rfl, _, _, rfl, rfl, _, rfl, ite2 (fun c => ?_) (fun c => ?_)⟩
          · have c1 := of_decide_eq_true c
            refine ⟨_, rfl, _, rfl, _, rfl, _, _, rfl, rfl, ⟨by decide, by decide⟩, o, _, _, _, rfl, rfl, lo sG, f1 (n := g / 100) (by omega) (by omega), _, rfl, by show 2 ≤ sizeLine; omega, fun a na => ⟨q, a, _, _, rfl, rfl, upd_keep hq na, upd_same, by rw [List.length_map]; show _ + 2 ≤ sizeLine; first | omega | (simp only [List.length_append]; omega), fun b nb => ⟨b, rfl, ?_, Same.free (same_more sG na) nb, same_more (same_more sG na) nb⟩⟩⟩
            rw [upd_same, hA, if_pos (by omega), List.map_append, f3]
            rfl
          · have c1 : ¬ g > 99 := fun h => c (decide_eq_true h)
            refine ⟨q, rfl, ?_, nq, sG⟩
            rw [hq, hA, if_neg (by omega), List.map_nil, List.append_nil]
        rintro τ G1 ⟨q', rfl, hq, nq, sG⟩
        -- below twenty
        refine ⟨fun τ G => ∃ q2 : Addr, τ = [some (.ref t), some (.int n), some (.ref o), some (.ref te), some (.str hun), some (.ref sc), some (.ref q2), some (.int (i : Int)), some (.int g), some (.int (g % 100))] ∧ G q2 = some (.lst (((ws ++ pA) ++ pB).map V.str)) ∧ H q2 = none ∧ Same H G, ?_, ?_⟩
        · refine ⟨_, rfl, _, _, rfl, rfl, _, rfl, ite2 (fun c => ?_) (fun c => ⟨_, rfl, ite2 (fun z => by cases z) (fun _ => ?_)⟩)⟩
          · have c1 := of_decide_eq_true c
            refine ⟨_, _, rfl, rfl, _, rfl, ite2 (fun d => ?_) (fun d => ?_)⟩
            · have d1 := of_decide_eq_true d
              refine ⟨_, rfl, _, rfl, _, rfl, o, _, _, _, rfl, rfl, lo sG, f1 (n := g % 100) (by omega) (by omega), by show 1 ≤ sizeLine; omega, fun a na => ⟨q', a, _, _, rfl, rfl, upd_keep hq na, upd_same, by rw [List.length_map]; show _ + 1 ≤ sizeLine; first | omega | (simp only [List.length_append]; omega), fun b nb => ⟨b, rfl, ?_, Same.free (same_more sG na) nb, same_more (same_more sG na) nb⟩⟩⟩
              rw [upd_same, hB, if_pos ⟨c1, d1⟩]
              simp
            · have d1 : ¬ g % 100 < 20 := fun h => d (decide_eq_true h)
              refine ⟨q', rfl, ?_, nq, sG⟩
              rw [hq, hB, if_neg (fun z => d1 z.2), List.map_nil, List.append_nil]
          · have c1 : ¬ 0 < g % 100 := fun h => c (decide_eq_true h)
            refine ⟨q', rfl, ?_, nq, sG⟩
            rw [hq, hB, if_neg (fun z => c1 z.1), List.map_nil, List.append_nil]
        rintro τ G1 ⟨q', rfl, hq, nq, sG⟩
        refine ⟨fun τ G => ∃ q2 : Addr, τ = [some (.ref t), some (.int n), some (.ref o), some (.ref te), some (.str hun), some (.ref sc), some (.ref q2), some (.int (i : Int)), some (.int g), some (.int (g % 100))] ∧ G q2 = some (.lst ((((ws ++ pA) ++ pB) ++ pC).map V.str)) ∧ H q2 = none ∧ Same H G, ?_, ?_⟩
        · refine ⟨_, rfl, _, _, rfl, rfl, _, rfl, ite2 (fun c => ?_) (fun c => ?_)⟩
          · have c1 := of_decide_eq_true c
            refine ⟨_, rfl, _, rfl, _, rfl, _, _, rfl, rfl, ⟨by decide, by decide⟩, _, _, rfl, rfl, te, _, _, _, rfl, rfl, lt sG, f2 (k := g % 100 / 10) (by omega) (by omega), by show 1 ≤ sizeLine; omega, fun a na => ⟨q', a, _, _, rfl, rfl, upd_keep hq na, upd_same, by rw [List.length_map]; show _ + 1 ≤ sizeLine; simp only [List.length_append]; omega, fun b nb => ?_⟩⟩
            have s3 := same_more (x := .lst (((ws ++ pA) ++ pB).map V.str ++ [V.str (f (.low (10 * (g % 100 / 10))))])) (same_more (x := .lst [V.str (f (.low (10 * (g % 100 / 10))))]) sG na) nb
            have nb' := Same.free (same_more (x := .lst [V.str (f (.low (10 * (g % 100 / 10))))]) sG na) nb
            refine ⟨_, rfl, _, rfl, _, rfl, _, _, rfl, rfl, (by show (0 : Int) < 10; decide), o, _, _, _, rfl, rfl, lo s3, f1 (n := g % 100 % 10) (by omega) (by omega), by show 1 ≤ sizeLine; omega, fun a2 na2 => ?_⟩
            refine ⟨_, rfl, _, _, rfl, rfl, (by show (0 : Int) < 10; decide), _, _, rfl, rfl, .inr ⟨_, rfl, ?_⟩⟩
            have hb2 := upd_keep (x := .lst [V.str (f (.low (g % 100 % 10)))]) (upd_same (H := upd G1 a (.lst [V.str (f (.low (10 * (g % 100 / 10))))])) (a := b) (o := .lst (((ws ++ pA) ++ pB).map V.str ++ [V.str (f (.low (10 * (g % 100 / 10))))]))) na2
            have s4 := same_more (x := .lst [V.str (f (.low (g % 100 % 10)))]) s3 na2
            by_cases d : g % 100 % 10 > 0
            · rw [decide_eq_true d]
              refine ⟨a2, 1, _, rfl, rfl, upd_same, by decide, by decide, by show 1 * 1 ≤ sizeLine; omega, fun e ne => ⟨b, e, _, _, rfl, rfl, upd_keep hb2 ne, upd_same, ?_, fun h nh => ⟨h, rfl, ?_, Same.free (same_more s4 ne) nh, same_more (same_more s4 ne) nh⟩⟩⟩
              · simp only [List.length_append, List.length_map]
                show _ + 1 + 1 ≤ sizeLine
                omega
              · rw [upd_same, hC, if_pos c1, if_pos d]
                simp
            · rw [decide_eq_false d]
              refine ⟨a2, 0, _, rfl, rfl, upd_same, by decide, by decide, by show 1 * 0 ≤ sizeLine; omega, fun e ne => ⟨b, e, _, _, rfl, rfl, upd_keep hb2 ne, upd_same, ?_, fun h nh => ⟨h, rfl, ?_, Same.free (same_more s4 ne) nh, same_more (same_more s4 ne) nh⟩⟩⟩
              · simp only [List.length_append, List.length_map]
                show _ + 1 + 0 ≤ sizeLine
                omega
              · rw [upd_same, hC, if_pos c1, if_neg d]
                simp
          · have c1 : ¬ g % 100 > 19 := fun h => c (decide_eq_true h)
            refine ⟨q', rfl, ?_, nq, sG⟩
            rw [hq, hC, if_neg c1, List.map_nil, List.append_nil]
        rintro τ G1 ⟨q', rfl, hq, nq, sG⟩
        refine ⟨fun τ G => ∃ q2 : Addr, τ = [some (.ref t), some (.int n), some (.ref o), some (.ref te), some (.str hun), some (.ref sc), some (.ref q2), some (.int (i : Int)), some (.int g), some (.int (g % 100))] ∧ G q2 = some (.lst (((((ws ++ pA) ++ pB) ++ pC) ++ pD).map V.str)) ∧ H q2 = none ∧ Same H G, ?_, ?_⟩
        · refine ⟨_, rfl, _, _, rfl, rfl, _, rfl, ite2 (fun c => ?_) (fun c => ?_)⟩
          · have c1 := of_decide_eq_true c
            refine ⟨_, rfl, _, _, rfl, rfl, _, rfl, ite2 (fun d => ?_) (fun d => ?_)⟩
            · have d1 : i > 0 := by
                have z := of_decide_eq_true d
                omega
              refine ⟨_, rfl, _, rfl, _, rfl, _, _, rfl, rfl, sc, _, _, .str (f (.sc (i - 1))), rfl, rfl, ls sG, by rw [show (i : Int) - 1 = ((i - 1 : Nat) : Int) by omega]; exact f4 (by omega), by show 1 ≤ sizeLine; omega, fun a na => ⟨q', a, _, _, rfl, rfl, upd_keep hq na, upd_same, by rw [List.length_map]; show _ + 1 ≤ sizeLine; first | omega | (simp only [List.length_append]; omega), fun b nb => ⟨b, rfl, ?_, Same.free (same_more sG na) nb, same_more (same_more sG na) nb⟩⟩⟩
              rw [upd_same, hD, if_pos ⟨c1, d1⟩]
              simp
            · have d1 : ¬ i > 0 := fun h => d (decide_eq_true (by omega))
              refine ⟨q', rfl, ?_, nq, sG⟩
              rw [hq, hD, if_neg (fun z => d1 z.2), List.map_nil, List.append_nil]
          · have c1 : ¬ g > 0 := fun h => c (decide_eq_true h)
            refine ⟨q', rfl, ?_, nq, sG⟩
            rw [hq, hD, if_neg (fun z => c1 z.1), List.map_nil, List.append_nil]
        rintro τ G1 ⟨q', rfl, hq, nq, sG⟩
        refine ⟨_, rfl, _, _, rfl, rfl, ⟨(i : Int) - 1, q', (((ws ++ pA) ++ pB) ++ pC) ++ pD, some (.int g), some (.int (g % 100)), rfl, by omega, by omega, hq, nq, sG, ?_, ?_⟩, ?_⟩
        · rw [← hf, show ((i : Int) - 1 + 1).toNat = i by omega, ← en, all4]
          simp only [List.append_assoc]
        · simp only [List.length_append]
          omega
        · show ((i : Int) - 1 + 1).toNat < ((i : Int) + 1).toNat
          omega
      · have c0 : ¬ s ≥ 0 := fun h => c (decide_eq_true h)
        have e : s = -1 := by omega
        subst e
        refine ⟨_, rfl, k q G nq sG ?_⟩
        rw [hq]
        have e2 : ws = name := by
          rw [← en]
          show ws = ws ++ []
          rw [List.append_nil]
        rw [e2, ← hname]
        unfold Bg.nameW
        rw [if_neg nz]
    · rintro σ G Q1 Q2 mo ⟨x, hx, i, j, h1, h2, b, h3, q⟩
      exact ⟨x, hx, i, j, h1, h2, b, h3, mo _ _ q⟩
end
end LB
set_option Elab.async false
set_option linter.all false
set_option maxRecDepth 100000
set_option maxHeartbeats 4000000
/-! Family D: drawn numbers. -/
namespace LB
open PySem L2 Wk
open Bg (Bg Wo)
def spValueD : Sp := fun vs H Q _ => ∃ (p t : Addr) (d s c : Int) (o te sc : Addr) (ones tens : List Str) (hun : Str) (scales : List Str), vs = [.ref p, .ref t] ∧ RngAtD H p d s c ∧ c < 2 ^ 29 ∧ TabAt H t ones tens hun scales o te sc ∧ scales.length ≤ 20 ∧
  ∀ (r d' c' : Int) (H' : Hp), 0 ≤ r → r < Bg.W (scales.length + 1) → RngAtD H' p d' s c' → c' ≤ c + 20 → KeepP p H H' → Q (.int r) H'
def spNumberD : Sp := fun vs H Q _ => ∃ (p t : Addr) (d s c : Int) (o te sc : Addr) (ones tens : List Str) (hun : Str) (scales : List Str), vs = [.ref p, .ref t] ∧ RngAtD H p d s c ∧ c < 2 ^ 28 ∧ TabAt H t ones tens hun scales o te sc ∧ scales.length ≤ 20 ∧
  ∀ (r d' c' : Int) (H' : Hp), r.natAbs < 2 ^ 500 → RngAtD H' p d' s c' → c' ≤ c + 30 → KeepP p H H' → Q (.int r) H'
theorem TabAt.keepP {p : Addr} {H G : Hp} {t o te sc : Addr} {d s c : Int} {ones tens : List Str} {hun : Str} {scales : List Str} (T : TabAt H t ones tens hun scales o te sc) (R : RngAtD H p d s c) (k : KeepP p H G) : TabAt G t ones tens hun scales o te sc := by
  have st : ∀ {q : Addr} {ws : List Str}, H q = some (.lst (ws.map V.str)) → q ≠ p := fun {q ws} e z => by
    rw [z, R.at_] at e
    have e := HO.lst.inj (Option.some.inj e)
    cases ws with
    | nil => cases e
    | cons x r => exact V.noConfusion (List.cons.inj e).1
  exact ⟨k _ _ T.tup fun z => (by have e := T.tup; rw [z, R.at_] at e; cases e), k _ _ T.lo (st T.lo), k _ _ T.lt (st T.lt), k _ _ T.ls (st T.ls)⟩
theorem pick4 {a b c d r : Int} (h0 : 0 ≤ r) (h1 : r < 4) : ∃ w, atI [V.int a, V.int b, V.int c, V.int d] r = some (.int w) := by
  rcases (show r = 0 ∨ r = 1 ∨ r = 2 ∨ r = 3 by omega) with rfl | rfl | rfl | rfl
  · exact ⟨a, rfl⟩
  · exact ⟨b, rfl⟩
  · exact ⟨c, rfl⟩
  · exact ⟨d, rfl⟩
theorem pick4i {a b c d r : Int} (h0 : 0 ≤ r) (h1 : r < 4) : ∃ w, atI [V.int a, V.int b, V.int c, V.int d] r = some (.int w) ∧ (w = a ∨ w = b ∨ w = c ∨ w = d) := by
  rcases (show r = 0 ∨ r = 1 ∨ r = 2 ∨ r = 3 by omega) with rfl | rfl | rfl | rfl
  · exact ⟨a, rfl, .inl rfl⟩
  · exact ⟨b, rfl, .inr (.inl rfl)⟩
  · exact ⟨c, rfl, .inr (.inr (.inl rfl))⟩
  · exact ⟨d, rfl, .inr (.inr (.inr rfl))⟩
section
variable {P : Program} {w : World} {K : PySem.W.Frag} {mg : Str → Option Value} {base : Heap}
theorem scValueD : FnScope ["pool", "book", "top", "way", "some", "turn"] ["pool", "book"] (defScope sValue) := ⟨rfl, rfl, rfl, by decide +kernel, rfl, by decide +kernel, by decide +kernel⟩
theorem ok_valueD {f fP fD : Addr} {fd dP dD : FuncData} (F : Fun K "_law_value" "_law_value" sValue f fd) (Pw : Def1 P w K mg base "_law_power" 1 fP dP ["many"] spPower) (D : Def1 P w K mg base "_law_draw" 1 fD dD ["pool", "many"] spDrawD)
    (mL : mg "len" = none) (mR : mg "range" = none) (mN : mg "min" = none) (mX : mg "max" = none) : FnOk P w K mg base CX0 2 f fd ["pool", "book"] spValueD := by
  refine F.ok scValueD (fun vs H Q E h => ?_) (fun cdv A outer s H vs Q E hr h => ?_)
  · obtain ⟨p, t, d, s, c, o, te, sc, ones, tens, hun, scales, rfl, _⟩ := h
    rfl
  · obtain ⟨p, t, d, sd, c, o, te, sc, ones, tens, hun, scales, rfl, R, c29, TA, l3, k⟩ := h
    have hr1 : Room 1 _ := hr
    refine ⟨_, pss_mid (ps_par (i := 2) (j := 3) (by rfl) scValueD.nd rfl rfl (by decide) rfl rfl (pa_cons (pe_call Pw.ok hr1 (by rfl) Pw.g Pw.k Pw.b .nil pass0 (pa_cons (pe_op op_add (pe_callB call_len_seq (by rfl) mL PySem.boot_len (pa_cons (pe_ix ix_tup (pv 1) pe_int (fun _ _ => rfl)) pa_nil)) pe_int) pa_nil)) (pa_cons (pe_call D.ok hr1 (by rfl) D.g D.k D.b .nil pass0 (pa_cons (pv 0) (pa_cons pe_int pa_nil))) pa_nil)) (by rfl))
        (pss_mid (ps_set (i := 4) scValueD.nd rfl (.inl rfl) (pe_lst (pa_cons (pe_call D.ok hr1 (by rfl) D.g D.k D.b .nil pass0 (pa_cons (pv 0) (pa_cons pe_int pa_nil))) (pa_cons (pe_call D.ok hr1 (by rfl) D.g D.k D.b .nil pass0 (pa_cons (pv 0) (pa_cons (pv 2) pa_nil))) (pa_cons pe_int (pa_cons (pe_call Pw.ok hr1 (by rfl) Pw.g Pw.k Pw.b .nil pass0 (pa_cons (pe_call D.ok hr1 (by rfl) D.g D.k D.b .nil pass0 (pa_cons (pv 0) (pa_cons (pe_op op_add (pe_callB call_len_seq (by rfl) mL PySem.boot_len (pa_cons (pe_ix ix_tup (pv 1) pe_int (fun _ _ => rfl)) pa_nil)) pe_int) pa_nil))) pa_nil)) pa_nil))))))
        (pss_mid (ps_for PassesOwn.never rfl (pi_range1 rfl mR (pa_cons (pe_op op_add pe_int (pe_call D.ok hr1 (by rfl) D.g D.k D.b .nil pass0 (pa_cons (pv 0) (pa_cons pe_int pa_nil)))) pa_nil)) (pg_name (i := 5) scValueD.nd rfl (.inl rfl)) (pss_one (ps_asg (pe_op op_add (pe_ix ix_list (pv 4) pe_int (fun _ _ => rfl)) (pe_op op_mulW (pe_call D.ok hr1 (by rfl) D.g D.k D.b .nil pass0 (pa_cons (pv 0) (pa_cons pe_int pa_nil))) (pe_call Pw.ok hr1 (by rfl) Pw.g Pw.k Pw.b .nil pass0 (pa_cons (pe_call D.ok hr1 (by rfl) D.g D.k D.b .nil pass0 (pa_cons (pv 0) (pa_cons (pe_op op_add (pe_callB call_len_seq (by rfl) mL PySem.boot_len (pa_cons (pe_ix ix_tup (pv 1) pe_int (fun _ _ => rfl)) pa_nil)) pe_int) pa_nil))) pa_nil)))) (pg_sub (pv 4) pe_int set_list))))
        (pss_one (ps_ret (pe_callB (call_min2 rfl) (by rfl) mN (by decide +kernel) (pa_cons (pe_op op_sub (pv 2) pe_int) (pa_cons (pe_callB (call_max2 rfl) (by rfl) mX (by decide +kernel) (pa_cons pe_int (pa_cons (pe_ix ix_list (pe_lst (pa_cons (pe_ix ix_list (pv 4) pe_int (fun _ _ => rfl)) (pa_cons (pe_ix ix_list (pv 4) pe_int (fun _ _ => rfl)) (pa_cons (pe_ix ix_list (pv 4) pe_int (fun _ _ => rfl)) (pa_cons (pe_op op_sub (pe_op op_add (pe_ix ix_list (pv 4) pe_int (fun _ _ => rfl)) (pe_call D.ok hr1 (by rfl) D.g D.k D.b .nil pass0 (pa_cons (pv 0) (pa_cons pe_int pa_nil)))) pe_int) pa_nil))))) (pv 3) (fun _ _ => rfl)) pa_nil))) pa_nil))))))), ?_⟩
    have small : ∀ {n : Nat}, n < 2 ^ 10 → n < 2 ^ 1000 := fun h => Nat.lt_of_lt_of_le h (Nat.pow_le_pow_right (by decide) (by decide))
    have mid : ∀ {n : Nat}, n < 2 ^ 400 → n < 2 ^ 1000 := fun h => Nat.lt_of_lt_of_le h (Nat.pow_le_pow_right (by decide) (by decide))
    have big : 3000 ≤ sizeLine := by decide
    have L1 : (((scales.map V.str).length : Nat) : Int) + 1 = ((scales.length + 1 : Nat) : Int) := by rw [List.length_map]; omega
    have Wp := Bg.W_pos (scales.length + 1)
    have Wb := W_big (scales.length + 1) (by omega)
    -- the number of scale words and one more, as it is asked for often
    refine ⟨fun τ G => ∃ (way d1 c1 : Int), τ = [some (.ref p), some (.ref t), some (.int (Bg.W (scales.length + 1))), some (.int way), none, none] ∧ 0 ≤ way ∧ way < 4 ∧ RngAtD G p d1 sd c1 ∧ c1 ≤ c + 1 ∧ KeepP p H G, ?_, ?_⟩
    · refine ⟨_, rfl, t, _, _, _, rfl, rfl, SqT.of TA.tup, rfl, sc, _, rfl, .inl (SqL.of TA.ls), _, _, rfl, rfl, scales.length + 1, congrArg (fun z => [V.int z]) L1, by omega, ?_⟩
      exact ⟨_, rfl, p, d, sd, c, 4, rfl, R, by decide, small (by decide), by omega, fun way d1 c1 G1 w0 w1 e1 R1 K1 => ⟨_, _, rfl, way, d1, c1, rfl, w0, w1, R1, by omega, K1⟩⟩
    rintro τ G1 ⟨way, d1, c1, rfl, w0, w1, R1, e1, K1⟩
    refine ⟨fun τ G => ∃ (S : Addr) (a b e d2 c2 : Int), τ = [some (.ref p), some (.ref t), some (.int (Bg.W (scales.length + 1))), some (.int way), some (.ref S), none] ∧ G S = some (.lst [.int a, .int b, .int 0, .int e]) ∧ H S = none ∧ RngAtD G p d2 sd c2 ∧ c2 ≤ c + 4 ∧ KeepP p H G, ?_, ?_⟩
    · refine ⟨_, rfl, p, d1, sd, c1, 1000, rfl, R1, by decide, small (by decide), by omega, fun a d2 c2 G2 _ _ e2 R2 K2 => ?_⟩
      refine ⟨_, rfl, _, rfl, p, d2, sd, c2, _, rfl, R2, Wp, mid Wb, by omega, fun b d3 c3 G3 _ _ e3 R3 K3 => ?_⟩
      have K13 := K1.trans (KeepP.trans K2 K3)
      have T3 := TA.keepP R K13
      refine ⟨_, rfl, _, rfl, t, _, _, _, rfl, rfl, SqT.of T3.tup, rfl, sc, _, rfl, .inl (SqL.of T3.ls), _, _, rfl, rfl, p, d3, sd, c3, _, rfl, R3, by omega, small (by omega), by omega, fun q d4 c4 G4 q0 q1 e4 R4 K4 => ?_⟩
      refine ⟨q.toNat, by rw [Int.toNat_of_nonneg q0]; rfl, by omega, by show 4 ≤ sizeLine; omega, fun S nS => ?_⟩
      exact ⟨S, a, b, _, d4, c4, rfl, upd_same, (K13.trans K4).free ⟨_, R4.at_⟩ nS, R4.same (same_more (Same.refl _) nS), by omega, (K13.trans K4).trans (KeepP.of (same_more (Same.refl _) nS))⟩
    rintro τ G2 ⟨S, a, b, e, d2, c2, rfl, hS, nS, R2, e2, K2⟩
    have Sp : S ≠ p := R.ne nS
    refine ⟨fun τ G => ∃ (a b g e d3 c3 : Int) (x : Option V), τ = [some (.ref p), some (.ref t), some (.int (Bg.W (scales.length + 1))), some (.int way), some (.ref S), x] ∧ G S = some (.lst [.int a, .int b, .int g, .int e]) ∧ RngAtD G p d3 sd c3 ∧ c3 ≤ c + 15 ∧ KeepP p H G, ?_, ?_⟩
    · refine ⟨_, rfl, p, d2, sd, c2, 3, rfl, R2, by decide, small (by decide), by omega, fun q d3 c3 G3 q0 q1 e3 R3 K3 => ⟨_, _, rfl, rfl, 1 + q, rfl, by omega, by omega, ?_⟩⟩
      refine for_range (lo := 0) (n := (1 + q).toNat) (fun i σ G => ∃ (a b g e d3 c3 : Int) (x : Option V), σ = [some (.ref p), some (.ref t), some (.int (Bg.W (scales.length + 1))), some (.int way), some (.ref S), x] ∧ G S = some (.lst [.int a, .int b, .int g, .int e]) ∧ RngAtD G p d3 sd c3 ∧ c3 ≤ c + 5 + 2 * (i : Int) ∧ KeepP p H G)
        ⟨a, b, 0, e, d3, c3, none, rfl, K3 _ _ hS Sp, R3, by omega, K2.trans K3⟩ ?_ ?_
      · rintro i σ G hi ⟨a, b, g, e, d4, c4, x, rfl, hS, R4, e4, K4⟩
        have T4 := TA.keepP R K4
        refine ⟨_, rfl, S, _, _, V.int g, rfl, rfl, SqL.of hS, rfl, _, rfl, p, d4, sd, c4, 1000, rfl, R4, by decide, small (by decide), by omega, fun r d5 c5 G5 r0 r1 e5 R5 K5 => ?_⟩
        have T5 := T4.keepP R4 K5
        refine ⟨_, rfl, _, rfl, t, _, _, _, rfl, rfl, SqT.of T5.tup, rfl, sc, _, rfl, .inl (SqL.of T5.ls), _, _, rfl, rfl, p, d5, sd, c5, _, rfl, R5, by omega, small (by omega), by omega, fun q d6 c6 G6 q0 q1 e6 R6 K6 => ?_⟩
        have hS6 := K6 _ _ (K5 _ _ hS Sp) Sp
        refine ⟨q.toNat, by rw [Int.toNat_of_nonneg q0]; rfl, by omega, _, _, rfl, rfl, wide_mul (show r.natAbs < 2 ^ 10 by omega) (W_big q.toNat (by omega)) (by decide) (by decide) (by decide), _, _, rfl, rfl, _, rfl, S, _, _, 2, rfl, rfl, hS6, rfl, ?_⟩
        refine ⟨a, b, _, e, d6, c6, some (.int (0 + (i : Int))), rfl, upd_same, ⟨(upd_ne Sp.symm).trans R6.at_, R6.d0, R6.s0, R6.s1, R6.c0⟩, by omega, fun q' o' e' n' => (upd_ne fun z => ?_).trans (K6 _ _ (K5 _ _ (K4 _ _ e' n') n') n')⟩
        rw [z, nS] at e'
        cases e'
      · rintro σ G ⟨a, b, g, e, d4, c4, x, rfl, hS, R4, e4, K4⟩
        exact ⟨a, b, g, e, d4, c4, x, rfl, hS, R4, by omega, K4⟩
    rintro τ G3 ⟨a, b, g, e, d3, c3, x, rfl, hS, R3, e3, K3⟩
    refine ⟨_, rfl, _, _, rfl, rfl, ?_⟩
    refine ⟨_, rfl, S, _, _, _, rfl, rfl, SqL.of hS, rfl, _, rfl, S, _, _, _, rfl, rfl, SqL.of hS, rfl, _, rfl, S, _, _, _, rfl, rfl, SqL.of hS, rfl, ?_⟩
    refine ⟨_, rfl, S, _, _, _, rfl, rfl, SqL.of hS, rfl, _, rfl, p, d3, sd, c3, 3, rfl, R3, by decide, small (by decide), by omega, fun r d4 c4 G4 r0 r1 e4 R4 K4 => ?_⟩
    refine ⟨_, _, rfl, rfl, _, _, rfl, rfl, by show 4 ≤ sizeLine; omega, fun L nL => ?_⟩
    obtain ⟨v, hv⟩ := pick4 (a := a) (b := b) (c := g) (d := e + r - 1) w0 w1
    refine ⟨_, rfl, L, _, _, .int v, rfl, rfl, SqL.of upd_same, hv, _, _, rfl, _, _, rfl, ?_⟩
    refine k _ d4 c4 _ ?_ ?_ (R4.same (same_more (Same.refl _) nL)) (by omega) ((KeepP.trans K3 K4).trans (KeepP.of (same_more (Same.refl _) nL)))
    · repeat' split
      all_goals omega
    · repeat' split
      all_goals omega
end
end LB
set_option Elab.async false
set_option linter.all false
set_option maxRecDepth 100000
set_option maxHeartbeats 4000000
/-! Patterns: how the law makes them. -/
namespace LB
open PySem L2 Wk
def TmI (x : It) : Prop := ∀ s, x = some s → s.length ≤ 20 ∧ ∀ c ∈ s.cps.toList, c < 128
theorem TmI.ok {x : It} (h : TmI x) : okI x = true := by
  cases x with
  | none => rfl
  | some s =>
    have := (h s rfl).2
    show s.cps.all (· < 0x110000) = true
    rw [← Array.all_toList, List.all_eq_true]
    intro c hc
    have := this c hc
    exact decide_eq_true (by omega)
theorem TmI.word {s : Str} (h : GoodWord s) : TmI (some s) := fun z e => by
  cases e
  exact ⟨h.2.1, fun c hc => by have := h.2.2 c hc; omega⟩
theorem tm_none : TmI none := fun z e => by cases e
theorem tm_gap : TmI gp := fun z e => by
  cases e
  exact ⟨by decide, by decide⟩
theorem tm_extra : ∀ x ∈ [gp, none, some ("no" : Str), some ("zzzz" : Str)], TmI x := by
  intro x hx
  rcases List.mem_cons.mp hx with rfl | hx
  · exact tm_gap
  rcases List.mem_cons.mp hx with rfl | hx
  · exact tm_none
  rcases List.mem_cons.mp hx with rfl | hx
  · exact TmI.word (goodB_ok (by decide +kernel))
  · rw [List.mem_singleton.mp hx]
    exact TmI.word (goodB_ok (by decide +kernel))
theorem cut_30 (l : List V) : cutV l none (some 30) = l.take 30 := by
  unfold cutV
  rw [HT.sIx_none, List.drop_zero, show (30 : Int) = ((30 : Nat) : Int) from rfl, HT.sIx_nat, Nat.sub_zero, List.take_eq_take_iff]
  omega
def spWanted : Sp := fun vs H Q _ => ∃ (p : Addr) (d s c : Int) (t o te sc : Addr) (ones tens : List Str) (hun : Str) (scales : List Str) (a : Addr) (ws : List Str), vs = [.ref p, .ref t, .ref a] ∧ RngAtD H p d s c ∧ TabAt H t ones tens hun scales o te sc ∧ t ≠ p ∧ o ≠ p ∧ te ≠ p ∧ sc ≠ p ∧ ones.length = 20 ∧ tens.length = 8 ∧ scales.length ≤ 20 ∧
  GoodRow (ones ++ (tens ++ hun :: scales)) ∧ H a = some (.lst (ws.map V.str)) ∧ a ≠ p ∧ ws.length ≤ 200 ∧ (∀ w ∈ ws, GoodWord w) ∧ c < 2 ^ 28 ∧
  ∀ (l : Addr) (pat : List It) (d' c' : Int) (H' : Hp), H l = none → H' l = some (.lst (pat.map vI)) → pat.length ≤ 30 → (∀ x ∈ pat, TmI x) → RngAtD H' p d' s c' → c' ≤ c + 300 → (∀ q o, H q = some o → q ≠ p → H' q = some o) → Q (.ref l) H'
section
variable {P : Program} {w : World} {K : PySem.W.Frag} {mg : Str → Option Value} {base : Heap}
theorem scWanted : FnScope ["pool", "book", "some", "found", "way", "word", "die", "turn", "every"] ["pool", "book", "some"] (defScope sWanted) := ⟨rfl, rfl, rfl, by decide +kernel, rfl, by decide +kernel, by decide +kernel⟩
theorem ok_wanted {f fD : Addr} {fd dD : FuncData} (F : Fun K "_law_wanted" "_law_wanted" sWanted f fd) (D : Def1 P w K mg base "_law_draw" 1 fD dD ["pool", "many"] spDrawD) (mL : mg "len" = none) (mI : mg "int" = none) (mR : mg "range" = none) : FnOk P w K mg base CX0 2 f fd ["pool", "book", "some"] spWanted := by
  refine F.ok scWanted (fun vs H Q E h => ?_) (fun cdv A outer s H vs Q E hr h => ?_)
  · obtain ⟨p, d, s, c, t, o, te, sc, ones, tens, hun, scales, a, ws, rfl, _⟩ := h
    rfl
  · obtain ⟨p, d, sd, c, t, o, te, sc, ones, tens, hun, scales, a, ws, rfl, B, TA, tp, op, tep, scp, l1, l2, l3, good, ha, ap, w200, gw, c28, k⟩ := h
    have hr1 : Room 1 _ := hr
    have big : 3000 ≤ sizeLine := by decide
    have small : ∀ {n : Nat}, n < 2 ^ 10 → n < 2 ^ 1000 := fun h => Nat.lt_of_lt_of_le h (Nat.pow_le_pow_right (by decide) (by decide))
    refine ⟨_, pss_cons (ps_par (i := 3) (j := 4) (by rfl) scWanted.nd rfl rfl (by decide) rfl rfl (pa_cons (pe_lst pa_nil) (pa_cons (pe_call D.ok hr1 (by rfl) D.g D.k D.b .nil pass0 (pa_cons (pv 0) (pa_cons pe_int pa_nil))) pa_nil)) (by rfl))
        (pss_mid (ps_for PassesOwn.never rfl (pi_list (pv 2)) (pg_name (i := 5) scWanted.nd rfl (.inl rfl))
          (pss_cons (ps_set (i := 6) scWanted.nd rfl (.inl rfl) (pe_call D.ok hr1 (by rfl) D.g D.k D.b .nil pass0 (pa_cons (pv 0) (pa_cons (pe_ix ix_list (pe_lst (pa_cons pe_int (pa_cons pe_int (pa_cons pe_int (pa_cons pe_int pa_nil))))) (pv 4) (fun _ _ => rfl)) pa_nil))))
        (pss_one (ps_if (pt_cmpR op_eq (pv 6) pe_int (nomark _)) (pss_one (ps_expr (pe_bm PySem.F.plainAttrs_list PySem.F.slot_list_append PySem.F.type_list_append mt_append (pv 3) (pa_cons pe_non pa_nil)))) (pss_one (ps_if (PW.pt (pw_and (pt_cmpR op_eq (pv 6) pe_int (nomark _)) (pw_and1 (pt_cmpR op_gt (pv 4) pe_int (nomark _))))) (pss_one (ps_expr (pe_bm PySem.F.plainAttrs_list PySem.F.slot_list_append PySem.F.type_list_append mt_append (pv 3) (pa_cons pe_str pa_nil)))) (pss_one (ps_if (PW.pt (pw_or (pt_cmpR op_ne (pv 6) pe_int (nomark _)) (pw_or1 (pt_cmpR op_lt (pv 4) pe_int (nomark _))))) (pss_one (ps_expr (pe_bm PySem.F.plainAttrs_list PySem.F.slot_list_append PySem.F.type_list_append mt_append (pv 3) (pa_cons (pv 5) pa_nil)))) pss_nil))))))))
        (pss_mid (ps_for PassesOwn.never rfl (pi_range1 rfl mR (pa_cons (pe_callTy call_int1 (by rfl) mI (by decide +kernel) (pa_cons (pe_cmpR op_eq (pe_call D.ok hr1 (by rfl) D.g D.k D.b .nil pass0 (pa_cons (pv 0) (pa_cons pe_int pa_nil))) pe_int (nomark _)) pa_nil)) pa_nil)) (pg_name (i := 7) scWanted.nd rfl (.inl rfl))
          (pss_cons (ps_set (i := 8) scWanted.nd rfl (.inl rfl) (pe_op op_cat (pe_op op_cat (pe_op op_cat (pe_op op_cat (pe_ix ix_tup (pv 1) pe_int (fun _ _ => rfl)) (pe_ix ix_tup (pv 1) pe_int (fun _ _ => rfl))) (pe_lst (pa_cons (pe_ix ix_tup (pv 1) pe_int (fun _ _ => rfl)) pa_nil))) (pe_ix ix_tup (pv 1) pe_int (fun _ _ => rfl))) (pe_lst (pa_cons pe_str (pa_cons pe_non (pa_cons pe_str (pa_cons pe_str pa_nil)))))))
        (pss_one (ps_expr (pe_bm PySem.F.plainAttrs_list PySem.F.slot_list_insert PySem.F.type_list_insert mt_insert (pv 3) (pa_cons (pe_call D.ok hr1 (by rfl) D.g D.k D.b .nil pass0 (pa_cons (pv 0) (pa_cons (pe_op op_add (pe_callB call_len_seq (by rfl) mL PySem.boot_len (pa_cons (pv 3) pa_nil)) pe_int) pa_nil))) (pa_cons (pe_ix ix_list (pv 8) (pe_call D.ok hr1 (by rfl) D.g D.k D.b .nil pass0 (pa_cons (pv 0) (pa_cons (pe_callB call_len_seq (by rfl) mL PySem.boot_len (pa_cons (pv 8) pa_nil)) pa_nil))) (fun _ _ => rfl)) pa_nil)))))))
        (pss_one (ps_ret (pe_slice sl_list (pv 3) po_none (po_some pe_int)))))), ?_⟩
    refine ⟨by show 0 ≤ sizeLine; omega, fun q nq => ?_⟩
    have s0 := same_more (x := .lst []) (Same.refl H) nq
    have B0 := B.same s0
    have qp : q ≠ p := B.ne nq
    refine ⟨_, rfl, p, d, sd, c, 4, rfl, B0, by decide, small (by decide), by omega, fun way d1 c1 H1 w0 w1 e1 B1 K1 => ?_⟩
    have K1 : KeepP p (upd H q (.lst [])) H1 := K1
    have K01 : KeepP p H H1 := (KeepP.of s0).trans K1
    have hq1 : H1 q = some (.lst []) := K1 _ _ upd_same qp
    refine ⟨_, _, rfl, ?_⟩
    refine ⟨fun τ G => ∃ (pat : List It) (d2 c2 : Int) (x5 x6 : Option V), τ = [some (.ref p), some (.ref t), some (.ref a), some (.ref q), some (.int way), x5, x6, none, none] ∧ G q = some (.lst (pat.map vI)) ∧ pat.length ≤ 200 ∧ (∀ x ∈ pat, TmI x) ∧ RngAtD G p d2 sd c2 ∧ c2 ≤ c + 210 ∧ KeepP p H G, ?_, ?_⟩
    · refine ⟨_, rfl, a, rfl, ⟨_, SqL.of (K01 _ _ ha ap)⟩, for_list (K := K) (a := a) (xs := ws.map V.str) (fun i σ G => ∃ (pat : List It) (d2 c2 : Int) (x5 x6 : Option V), σ = [some (.ref p), some (.ref t), some (.ref a), some (.ref q), some (.int way), x5, x6, none, none] ∧ G q = some (.lst (pat.map vI)) ∧ pat.length ≤ i ∧ (∀ x ∈ pat, TmI x) ∧ RngAtD G p d2 sd c2 ∧ c2 ≤ c + 1 + (i : Int) ∧ KeepP p H G)
        ⟨[], d1, c1, none, none, rfl, hq1, Nat.le_refl _, (fun x hx => by cases hx), B1, by omega, K01⟩ (fun i σ G _ ⟨_, _, _, _, _, _, _, _, _, _, _, kk⟩ => SqL.of (kk _ _ ha ap)) ?_ ?_⟩
      · rintro i y σ G hi ⟨pat, d2, c2, x5, x6, rfl, hq, lp, tm, B2, e2, K2⟩
        obtain ⟨wd', hw, rfl⟩ := str_at hi
        have il := (List.getElem?_eq_some_iff.mp hw).1
        have gwd := gw wd' (List.mem_of_getElem? hw)
        obtain ⟨m, hm, hm4⟩ := pick4i (a := 9) (b := 4) (c := 3) (d := 5) w0 w1
        have mpos : 0 < m ∧ m ≤ 9 := by omega
        refine ⟨_, rfl, by show 4 ≤ sizeLine; omega, fun L nL => ?_⟩
        have Lp : L ≠ p := B2.ne nL
        have sL := same_more (x := .lst [.int 9, .int 4, .int 3, .int 5]) (Same.refl G) nL
        refine ⟨_, rfl, L, _, _, _, rfl, rfl, SqL.of upd_same, hm, p, d2, sd, c2, m, rfl, B2.same sL, mpos.1, small (by omega), by omega, fun r d3 c3 G3 r0 r1 e3 B3 K3 => ?_⟩
        have hq3 := K3 _ _ (upd_keep hq nL) qp
        have K23 : KeepP p H G3 := K2.trans ((KeepP.of sL).trans K3)
        have lenq : (pat.map vI).length < sizeLine := by rw [List.length_map]; omega
        have app : ∀ x : It, TmI x → ∃ (pat' : List It) (d4 c4 : Int) (y5 y6 : Option V), [some (V.ref p), some (V.ref t), some (V.ref a), some (V.ref q), some (V.int way), some (V.str wd'), some (V.int r), none, none] = [some (.ref p), some (.ref t), some (.ref a), some (.ref q), some (.int way), y5, y6, none, none] ∧
            upd G3 q (.lst (pat.map vI ++ [vI x])) q = some (.lst (pat'.map vI)) ∧ pat'.length ≤ i + 1 ∧ (∀ x ∈ pat', TmI x) ∧ RngAtD (upd G3 q (.lst (pat.map vI ++ [vI x]))) p d4 sd c4 ∧ c4 ≤ c + 1 + ((i + 1 : Nat) : Int) ∧ KeepP p H (upd G3 q (.lst (pat.map vI ++ [vI x]))) := fun x hx => by
          refine ⟨pat ++ [x], d3, c3, _, _, rfl, ?_, ?_, fun z hz => ?_, ⟨by rw [upd_ne qp.symm]; exact B3.at_, B3.d0, B3.s0, B3.s1, B3.c0⟩, by omega, fun r o e n => ?_⟩
          · rw [upd_same, List.map_append]
            rfl
          · rw [List.length_append]
            exact Nat.add_le_add_right lp 1
          · rcases List.mem_append.mp hz with h | h
            · exact tm z h
            · rw [List.mem_singleton.mp h]
              exact hx
          · rw [upd_ne (ne_of_none e nq)]
            exact K23 r o e n
        have skip : ∃ (pat' : List It) (d4 c4 : Int) (y5 y6 : Option V), [some (V.ref p), some (V.ref t), some (V.ref a), some (V.ref q), some (V.int way), some (V.str wd'), some (V.int r), none, none] = [some (.ref p), some (.ref t), some (.ref a), some (.ref q), some (.int way), y5, y6, none, none] ∧
            G3 q = some (.lst (pat'.map vI)) ∧ pat'.length ≤ i + 1 ∧ (∀ x ∈ pat', TmI x) ∧ RngAtD G3 p d4 sd c4 ∧ c4 ≤ c + 1 + ((i + 1 : Nat) : Int) ∧ KeepP p H G3 := ⟨pat, d3, c3, _, _, rfl, hq3, by omega, tm, B3, by omega, K23⟩
        refine ⟨_, rfl, rfl, _, rfl, ite2 (fun c1 => ?_) (fun c1 => ?_)⟩
        · exact ⟨_, rfl, .inl ⟨rfl, _, SqL.of hq3⟩, q, _, _, rfl, rfl, hq3, lenq, app none tm_none⟩
        refine ⟨_, rfl, rfl, _, rfl, ite2 (fun c2 => ⟨_, rfl, _, _, rfl, rfl, _, rfl, ite2 (fun c3 => ?_) (fun c3 => ?_)⟩) (fun c2 => ?_)⟩
        · exact ⟨_, rfl, .inl ⟨rfl, _, SqL.of hq3⟩, q, _, _, rfl, rfl, hq3, lenq, app gp tm_gap⟩
        · refine ⟨_, rfl, rfl, _, rfl, ite2 (fun c4 => ?_) (fun c4 => ⟨_, rfl, _, _, rfl, rfl, _, rfl, ite2 (fun c5 => ?_) (fun c5 => ?_)⟩)⟩
          · exact ⟨_, rfl, .inl ⟨rfl, _, SqL.of hq3⟩, _, rfl, q, _, _, rfl, rfl, hq3, lenq, app (some wd') (TmI.word gwd)⟩
          · exact ⟨_, rfl, .inl ⟨rfl, _, SqL.of hq3⟩, _, rfl, q, _, _, rfl, rfl, hq3, lenq, app (some wd') (TmI.word gwd)⟩
          · exact skip
        · refine ite2 (fun z => by cases z) (fun _ => ?_)
          refine ⟨_, rfl, rfl, _, rfl, ite2 (fun c4 => ?_) (fun c4 => ⟨_, rfl, _, _, rfl, rfl, _, rfl, ite2 (fun c5 => ?_) (fun c5 => ?_)⟩)⟩
          · exact ⟨_, rfl, .inl ⟨rfl, _, SqL.of hq3⟩, _, rfl, q, _, _, rfl, rfl, hq3, lenq, app (some wd') (TmI.word gwd)⟩
          · exact ⟨_, rfl, .inl ⟨rfl, _, SqL.of hq3⟩, _, rfl, q, _, _, rfl, rfl, hq3, lenq, app (some wd') (TmI.word gwd)⟩
          · exact skip
      · rintro σ G ⟨pat, d2, c2, x5, x6, rfl, hq, lp, tm, B2, e2, K2⟩
        rw [List.length_map] at lp e2
        exact ⟨pat, d2, c2, x5, x6, rfl, hq, by omega, tm, B2, by omega, K2⟩
    rintro τ G ⟨pat, d2, c2, x5, x6, rfl, hq, lp, tm, B2, e2, K2⟩
    obtain ⟨row, hrow⟩ : ∃ r, r = ones ++ (tens ++ hun :: scales) := ⟨_, rfl⟩
    rw [← hrow] at good
    have rl : row.length = 29 + scales.length := by
      rw [hrow, List.length_append, List.length_append, List.length_cons]
      omega
    obtain ⟨ev, hev⟩ : ∃ ev : List It, ev = row.map some ++ [gp, none, some ("no" : Str), some ("zzzz" : Str)] := ⟨_, rfl⟩
    have evl : ev.length = 33 + scales.length := by
      rw [hev, List.length_append, List.length_map, rl]
      show 29 + scales.length + 4 = _
      omega
    have evt : ∀ x ∈ ev, TmI x := fun x hx => by
      rw [hev] at hx
      rcases List.mem_append.mp hx with h | h
      · obtain ⟨z, hz, rfl⟩ := List.mem_map.mp h
        exact TmI.word (good.ok z hz)
      · exact tm_extra x h
    have evE : ones.map V.str ++ tens.map V.str ++ [V.str hun] ++ scales.map V.str ++ [.str "", .non, .str "no", .str "zzzz"] = ev.map vI := by
      have e : ∀ l : List Str, l.map V.str = (l.map some).map vI := fun l => by
        rw [List.map_map]
        rfl
      rw [hev, hrow, e, e, e, List.map_append, List.map_append, List.map_append, List.map_cons, List.map_append, List.map_append, List.map_cons]
      simp only [List.append_assoc, List.cons_append, List.nil_append]
      rfl
    refine ⟨fun τ G' => ∃ (pat : List It) (d2 c2 : Int) (x7 x8 : Option V), τ = [some (.ref p), some (.ref t), some (.ref a), some (.ref q), some (.int way), x5, x6, x7, x8] ∧ G' q = some (.lst (pat.map vI)) ∧ pat.length ≤ 201 ∧ (∀ x ∈ pat, TmI x) ∧ RngAtD G' p d2 sd c2 ∧ c2 ≤ c + 290 ∧ KeepP p H G', ?_, ?_⟩
    · refine ⟨_, rfl, p, d2, sd, c2, 4, rfl, B2, by decide, small (by decide), by omega, fun r d3 c3 G3 r0 r1 e3 B3 K3 => ⟨rfl, .inr ⟨_, rfl, ?_⟩⟩⟩
      obtain ⟨m, hm, m1⟩ : ∃ m : Nat, (if decide (V.int r = V.int 0) = true then (1 : Int) else 0) = (m : Int) ∧ m ≤ 1 := by
        by_cases z : decide (V.int r = V.int 0) = true
        · exact ⟨1, if_pos z, Nat.le_refl _⟩
        · exact ⟨0, if_neg z, by omega⟩
      refine ⟨(m : Int), congrArg (fun z => [V.int z]) hm, by omega, by omega, for_range (lo := 0) (n := ((m : Nat) : Int).toNat) (fun i σ G' => ∃ (pat : List It) (d2 c2 : Int) (x7 x8 : Option V), σ = [some (.ref p), some (.ref t), some (.ref a), some (.ref q), some (.int way), x5, x6, x7, x8] ∧ G' q = some (.lst (pat.map vI)) ∧ pat.length ≤ 200 + i ∧ (∀ x ∈ pat, TmI x) ∧ RngAtD G' p d2 sd c2 ∧ c2 ≤ c + 212 + 2 * (i : Int) ∧ KeepP p H G')
        ⟨pat, d3, c3, none, none, rfl, K3 _ _ hq qp, by omega, tm, B3, by omega, K2.trans K3⟩ ?_ ?_⟩
      · rintro i σ G' hi ⟨pat, d2, c2, x7, x8, rfl, hq, lp, tm, B2, e2, K2⟩
        have im : i < 1 := by omega
        have TG : TabAt G' t ones tens hun scales o te sc := ⟨K2 _ _ TA.tup tp, K2 _ _ TA.lo op, K2 _ _ TA.lt tep, K2 _ _ TA.ls scp⟩
        refine ⟨_, rfl, t, _, _, _, rfl, rfl, SqT.of TG.tup, rfl, _, rfl, t, _, _, _, rfl, rfl, SqT.of TG.tup, rfl, o, te, _, _, rfl, rfl, TG.lo, TG.lt, ?_, fun a1 n1 => ?_⟩
        · rw [List.length_map, List.length_map]
          show _ ≤ sizeLine
          omega
        have s1 := same_more (x := .lst (ones.map V.str ++ tens.map V.str)) (Same.refl G') n1
        refine ⟨_, rfl, t, _, _, _, rfl, rfl, SqT.of (s1 _ _ TG.tup), rfl, by show 1 ≤ sizeLine; omega, fun a2 n2 => ?_⟩
        have s2 := same_more (x := .lst [.str hun]) s1 n2
        refine ⟨a1, a2, _, _, rfl, rfl, upd_keep upd_same n2, upd_same, ?_, fun a3 n3 => ?_⟩
        · rw [List.length_append, List.length_map, List.length_map]
          show _ + 1 ≤ sizeLine
          omega
        have s3 := same_more (x := .lst (ones.map V.str ++ tens.map V.str ++ [.str hun])) s2 n3
        refine ⟨_, rfl, t, _, _, _, rfl, rfl, SqT.of (s3 _ _ TG.tup), rfl, a3, sc, _, _, rfl, rfl, upd_same, s3 _ _ TG.ls, ?_, fun a4 n4 => ?_⟩
        · rw [List.length_append, List.length_append, List.length_map, List.length_map, List.length_map]
          show _ + 1 + _ ≤ sizeLine
          omega
        have s4 := same_more (x := .lst (ones.map V.str ++ tens.map V.str ++ [.str hun] ++ scales.map V.str)) s3 n4
        refine ⟨by show 4 ≤ sizeLine; omega, fun a5 n5 => ?_⟩
        have s5 := same_more (x := .lst [.str "", .non, .str "no", .str "zzzz"]) s4 n5
        refine ⟨a4, a5, _, _, rfl, rfl, upd_keep upd_same n5, upd_same, ?_, fun e ne => ?_⟩
        · rw [List.length_append, List.length_append, List.length_append, List.length_map, List.length_map, List.length_map]
          show _ + 1 + _ + 4 ≤ sizeLine
          omega
        have s6 := same_more (x := .lst (ones.map V.str ++ tens.map V.str ++ [.str hun] ++ scales.map V.str ++ [.str "", .non, .str "no", .str "zzzz"])) s5 ne
        have he := upd_same (H := upd (upd (upd (upd (upd G' a1 (.lst (ones.map V.str ++ tens.map V.str))) a2 (.lst [.str hun])) a3 (.lst (ones.map V.str ++ tens.map V.str ++ [.str hun]))) a4 (.lst (ones.map V.str ++ tens.map V.str ++ [.str hun] ++ scales.map V.str))) a5 (.lst [.str "", .non, .str "no", .str "zzzz"])) (a := e) (o := .lst (ones.map V.str ++ tens.map V.str ++ [.str hun] ++ scales.map V.str ++ [.str "", .non, .str "no", .str "zzzz"]))
        generalize hX : upd (upd (upd (upd (upd (upd G' a1 (.lst (ones.map V.str ++ tens.map V.str))) a2 (.lst [.str hun])) a3 (.lst (ones.map V.str ++ tens.map V.str ++ [.str hun]))) a4 (.lst (ones.map V.str ++ tens.map V.str ++ [.str hun] ++ scales.map V.str))) a5 (.lst [.str "", .non, .str "no", .str "zzzz"])) e (.lst (ones.map V.str ++ tens.map V.str ++ [.str hun] ++ scales.map V.str ++ [.str "", .non, .str "no", .str "zzzz"])) = G6 at s6 he
        rw [evE] at he
        have hq6 := s6 _ _ hq
        have B6 := B2.same s6
        have ep : e ≠ p := fun z => by
          rw [z, B6.at_] at he
          have h := congrArg (fun o : Option HO => match o with | some (.lst l) => l.length | _ => 0) he
          simp only [List.length_map] at h
          have h : 3 = ev.length := h
          omega
        refine ⟨_, rfl, .inl ⟨rfl, _, SqL.of hq6⟩, _, rfl, _, rfl, q, _, rfl, .inl (SqL.of hq6), _, _, rfl, rfl, p, d2, sd, c2, _, rfl, B6, by rw [List.length_map]; omega, small (by rw [List.length_map]; omega), by omega, fun r d4 c4 G4 r0 r1 e4 B4 K4 => ?_⟩
        have he4 := K4 _ _ he ep
        refine ⟨_, rfl, _, rfl, _, rfl, e, _, rfl, .inl (SqL.of he4), p, d4, sd, c4, _, rfl, B4, by rw [List.length_map]; omega, small (by rw [List.length_map]; omega), by omega, fun u d5 c5 G5 u0 u1 e5 B5 K5 => ?_⟩
        rw [List.length_map] at r1 u1
        obtain ⟨kk, rfl⟩ : ∃ kk : Nat, u = (kk : Int) := ⟨u.toNat, by omega⟩
        obtain ⟨x, hx⟩ : ∃ x, ev[kk]? = some x := ⟨_, List.getElem?_eq_getElem (by omega)⟩
        have hq5 := K5 _ _ (K4 _ _ hq6 qp) qp
        refine ⟨e, _, _, _, rfl, rfl, SqL.of (K5 _ _ he4 ep), atI_nat (v := vI x) (by rw [List.getElem?_map, hx]; rfl), q, _, r, vI x, rfl, rfl, hq5, by rw [List.length_map]; omega, r0, by omega, ?_⟩
        refine ⟨pat.take r.toNat ++ [x] ++ pat.drop r.toNat, d5, c5, _, _, rfl, ?_, ?_, fun z hz => ?_, ⟨by rw [upd_ne qp.symm]; exact B5.at_, B5.d0, B5.s0, B5.s1, B5.c0⟩, by omega, fun v ob ev' nv => ?_⟩
        · rw [upd_same, List.map_append, List.map_append, List.map_take, List.map_drop]
          rfl
        · rw [List.length_append, List.length_append, List.length_take, List.length_drop]
          show min r.toNat pat.length + 1 + (pat.length - r.toNat) ≤ _
          omega
        · rcases List.mem_append.mp hz with h | h
          · rcases List.mem_append.mp h with h | h
            · exact tm z (List.mem_of_mem_take h)
            · rw [List.mem_singleton.mp h]
              exact evt x (List.mem_of_getElem? hx)
          · exact tm z (List.mem_of_mem_drop h)
        · rw [upd_ne (ne_of_none ev' nq)]
          exact K5 _ _ (K4 _ _ (s6 _ _ (K2 _ _ ev' nv)) nv) nv
      · rintro σ G' ⟨pat, d2, c2, x7, x8, rfl, hq, lp, tm, B2, e2, K2⟩
        exact ⟨pat, d2, c2, x7, x8, rfl, hq, by omega, tm, B2, by omega, K2⟩
    rintro τ G' ⟨pat, d2, c2, x7, x8, rfl, hq, lp, tm, B2, e2, K2⟩
    refine ⟨_, rfl, _, rfl, q, _, rfl, SqL.of hq, fun l nl => ?_⟩
    refine k l (pat.take 30) d2 c2 _ (K2.free ⟨_, B2.at_⟩ nl) ?_ ?_ (fun x hx => tm x (List.mem_of_mem_take hx)) (B2.same (same_more (Same.refl _) nl)) (by omega) (K2.trans (KeepP.of (same_more (Same.refl _) nl)))
    · rw [upd_same, cut_30, List.map_take]
    · rw [List.length_take]
      omega

end
end LB
set_option Elab.async false
set_option linter.all false
set_option maxRecDepth 100000
set_option maxHeartbeats 4000000
/-! repr of data of many parts: one bound for all. -/
namespace Wk
open PySem L2
/-- data whose text is not too long: w its weight, n its depth -/
structure Sh (w n : Nat) (d : PyData) : Prop where
  sh : d.showable = true
  nd : d.hasDict = false
  dp : d.depth ≤ n
  ls : d.leavesShort 640 = true
  wt : d.weight ≤ w
structure ShA (w n : Nat) (ds : List PyData) : Prop where
  sh : PyData.showableAll ds = true
  nd : PyData.hasDictAll ds = false
  dp : PyData.depthAll ds ≤ n
  ls : PyData.leavesShortAll 640 ds = true
  wt : PyData.weightAll ds ≤ w
theorem Sh.mono {w w' n n' : Nat} {d : PyData} (h : Sh w n d) (a : w ≤ w') (b : n ≤ n') : Sh w' n' d := ⟨h.sh, h.nd, Nat.le_trans h.dp b, h.ls, Nat.le_trans h.wt a⟩
theorem ShA.mono {w w' n n' : Nat} {ds : List PyData} (h : ShA w n ds) (a : w ≤ w') (b : n ≤ n') : ShA w' n' ds := ⟨h.sh, h.nd, Nat.le_trans h.dp b, h.ls, Nat.le_trans h.wt a⟩
theorem ShA.nil : ShA 0 0 [] := ⟨rfl, rfl, Nat.le_refl _, rfl, Nat.le_refl _⟩
theorem ShA.cons {w1 w2 n : Nat} {d : PyData} {ds : List PyData} (h : Sh w1 n d) (r : ShA w2 n ds) : ShA (w1 + 1 + w2) n (d :: ds) where
  sh := by rw [PyData.showableAll, h.sh, r.sh]; rfl
  nd := by rw [PyData.hasDictAll, h.nd, r.nd]; rfl
  dp := by rw [PyData.depthAll]; exact Nat.max_le.mpr ⟨h.dp, r.dp⟩
  ls := by rw [PyData.leavesShortAll, h.ls, r.ls]; rfl
  wt := by
    rw [PyData.weightAll]
    have a := h.wt
    have b := r.wt
    omega
theorem Sh.list {w n : Nat} {ds : List PyData} (h : ShA w n ds) : Sh w (n + 1) (.list ds) where
  sh := by rw [PyData.showable]; exact h.sh
  nd := by rw [PyData.hasDict]; exact h.nd
  dp := by rw [PyData.depth]; have := h.dp; omega
  ls := by rw [PyData.leavesShort]; exact h.ls
  wt := by rw [PyData.weight]; exact h.wt
theorem Sh.tup {w n : Nat} {ds : List PyData} (h : ShA w n ds) : Sh w (n + 1) (.tuple ds) where
  sh := by rw [PyData.showable]; exact h.sh
  nd := by rw [PyData.hasDict]; exact h.nd
  dp := by rw [PyData.depth]; have := h.dp; omega
  ls := by rw [PyData.leavesShort]; exact h.ls
  wt := by rw [PyData.weight]; exact h.wt
theorem Sh.none : Sh 0 0 .none := ⟨rfl, rfl, by decide, rfl, by decide⟩
theorem Sh.str {x : Str} {n : Nat} (h : x.length ≤ n) (c : ∀ c ∈ x.cps.toList, c < 128) : Sh n 0 (.str x) where
  sh := rfl
  nd := rfl
  dp := by rw [PyData.depth]; exact Nat.le_refl _
  ls := by
    simp only [PyData.leavesShort, List.all_eq_true, decide_eq_true_eq]
    intro y hy
    have := c y hy
    have e : (16 : Nat) ^ 8 = 4294967296 := by decide
    omega
  wt := h
theorem big_ten : (2 : Nat) ^ 1000 ≤ 10 ^ 400 := by
  have a : (2 : Nat) ^ 1000 = (2 ^ 10) ^ 100 := by rw [← Nat.pow_mul]
  have b : (10 : Nat) ^ 400 = (10 ^ 4) ^ 100 := by rw [← Nat.pow_mul]
  rw [a, b]
  exact Nat.pow_le_pow_left (by decide) 100
theorem Sh.int {i : Int} (h : i.natAbs < 2 ^ 1000) : Sh 1001 0 (.int i) where
  sh := by
    rw [PyData.showable]
    refine decide_eq_true ?_
    by_cases z : i.natAbs = 0
    · rw [z]
      decide
    · have q := (Nat.log2_lt z).mpr h
      omega
  nd := rfl
  dp := by rw [PyData.depth]; exact Nat.le_refl _
  ls := by
    rw [PyData.leavesShort]
    refine decide_eq_true ?_
    have e := int_text_length_le10 (k := 400) (by decide) (Nat.lt_of_lt_of_le h big_ten)
    show (Str.ofString (toString i)).length ≤ 640
    rw [ofString_length]
    omega
  wt := by
    rw [PyData.weight]
    split
    · exact Nat.zero_le _
    · by_cases z : i.natAbs = 0
      · rw [z]
        decide
      · have q := (Nat.log2_lt z).mpr h
        omega
theorem ShA.strs {m : Nat} : ∀ {ws : List Str}, (∀ x ∈ ws, x.length ≤ m ∧ ∀ c ∈ x.cps.toList, c < 128) → ShA ((m + 1) * ws.length) 0 (ws.map PyData.str)
  | [], _ => .nil
  | x :: ws, h => by
    refine (ShA.cons (Sh.str (h x List.mem_cons_self).1 (h x List.mem_cons_self).2) (ShA.strs fun y hy => h y (List.mem_cons_of_mem _ hy))).mono ?_ (Nat.le_refl _)
    rw [List.length_cons, Nat.mul_succ]
    omega
/-- what call_repr asks -/
theorem Sh.repr {w n : Nat} {d : PyData} {K : PySem.W.Frag} {v : V} {H : Hp} {Q : VK} (h : Sh w n d) (hw : w ≤ 20000) (hn : n ≤ 60) (r : Dp K H v d) (q : Q (.str d.shown) H) : rRepr K [v] H Q := by
  refine ⟨v, d, rfl, r, h.sh, h.nd, Nat.le_trans h.dp hn, .inl ?_, q⟩
  have z := PyData.shown_le 640 (by decide) d h.ls
  have y : (640 + 2) * d.weight ≤ 642 * 20000 := Nat.mul_le_mul_left _ (Nat.le_trans h.wt hw)
  rw [sizeLine_eq]
  omega
end Wk
set_option Elab.async false
set_option linter.all false
set_option maxRecDepth 100000
set_option maxHeartbeats 4000000
/-! f(k = v, ..): keywords alone; what is raised is wished for at the caller's slots. -/
namespace Wk
open PySem PySem.Spec PyProof.Rows L2
def tCallKS (m : Nat) (sp : Sp) (gV : List V → List V → List V) (E : L2.St → XK) (tk : TA) : TE := fun σ H Q => tk σ H fun zs H2 => zs.length = m ∧ sp (gV [] zs) H2 Q (E σ)
section
variable {X : Cx} {CX : CXT} {k : Nat} {f : Addr} {fd : FuncData} {ps ks : List Str} {sp : Sp} {E : L2.St → XK} {x : Str} {p pos : Pos} {kws : List Keyword} {tk : TA} {g : List Value → List Value → List Value} {gV : List V → List V → List V}
theorem run_fnKS {pins : List (Addr × Obj)} {σ : L2.St} {H : Hp} {s : Shared} {Q : VK} {ws : List Value} {zs : List V} (F : FnOk X.prog X.w X.K X.mg X.base CX k f fd ps sp) (hr : Room k X.A) (hb : KBn X.K fd ps 0 ks g gV) (hx : PassesAt CX X σ (E σ))
    (I : L2.Inv X pins σ H s) (rz : Vals zs ws) (l2 : zs.length = ks.length) (h : sp (gV [] zs) H Q (E σ)) : wpAny (model X.prog X.w) X.A (call (.ref f) [] (ks.zip ws)) (EP X pins σ Q) X.xe s := by
  have r2 := hb.rel .nil rz
  refine wpAny_call (codeAny_mono (F.run X.A X.stack s H ⟨[], ks.zip ws⟩ (g [] ws) (gV [] zs) Q (E σ) hr I.env0 (hb.to s [] ws I.kIn rfl (rz.length.symm.trans l2)) r2 h) fun r s' hq => ?_)
  cases r with
  | error e => exact hx pins H s e s' I hq
  | ok fl =>
    cases fl with
    | ret u => exact I.after hq
    | next => exact False.elim hq
    | brk => exact False.elim hq
    | cont => exact False.elim hq
theorem pe_callKS (F : FnOk X.prog X.w X.K X.mg X.base CX k f fd ps sp) (hr : Room k X.A) (hg : Gl X x) (hm : X.mg x = some (.ref f)) (hk : PySem.W.keepIn X.K (.ref f) = true) (hb : KBn X.K fd ps 0 ks g gV) (hx : ∀ σ, PassesAt CX X σ (E σ))
    (hkw : PK X kws tk) (hall : (backToKw pos (keywordEach kws X.env)).all (·.1.isSome) = true := by rfl) (hks : (backToKw pos (keywordEach kws X.env)).filterMap (·.1) = ks := by rfl)
    (hdb : (x == ("__debug__" : Str)) = false := by decide) (hpl : ((backTo pos (starEach [] X.env)).any (·.1) || (backToKw pos (keywordEach kws X.env)).any (·.1.isNone)) = false := by rfl) :
    PE X (.Call (.Name x p) [] kws pos) (tCallKS ks.length sp gV E tk) := by
  constructor
  intro pins s σ H Q I h
  refine wpAny_Call_Name_kw (ld_glob I hg hm ?_ hdb)
  refine PySem.W.callWith_KW0 (h₀ := X.base) I.ok.mod.kin hk hall (thn (hkw.run pos pins s σ H _ I h) ?_) hpl
  rintro ws s2 ⟨zs, H2, I2, rz, l2, q2⟩
  refine ⟨I2.kIn, ?_⟩
  rw [hks]
  exact run_fnKS F hr hb (hx σ) I2 rz l2 q2
end
end Wk
set_option Elab.async false
set_option linter.all false
set_option maxRecDepth 100000
set_option maxHeartbeats 4000000
/-! Patterns: one number, three patterns. -/
namespace LB
open PySem L2 Wk
open Bg (Bg Wo)
theorem pe_callK0 {X : Cx} {CX : CXT} {k : Nat} {f : Addr} {fd : FuncData} {ps ks : List Str} {sp : Sp} {E : XK} {x : Str} {p pos : Pos} {kws : List Keyword} {tk : TA} {g : List Value → List Value → List Value} {gV : List V → List V → List V} (F : FnOk X.prog X.w X.K X.mg X.base CX k f fd ps sp) (hr : Room k X.A) (hg : Gl X x) (hm : X.mg x = some (.ref f)) (hk : PySem.W.keepIn X.K (.ref f) = true) (hb : KBn X.K fd ps 0 ks g gV) (hx : Passes CX X E)
    (hkw : PK X kws tk) (hall : (backToKw pos (keywordEach kws X.env)).all (·.1.isSome) = true := by rfl) (hks : (backToKw pos (keywordEach kws X.env)).filterMap (·.1) = ks := by rfl)
    (hdb : (x == ("__debug__" : Str)) = false := by decide) (hpl : ((backTo pos (starEach [] X.env)).any (·.1) || (backToKw pos (keywordEach kws X.env)).any (·.1.isNone)) = false := by rfl) :
    PE X (.Call (.Name x p) [] kws pos) (tCallKS ks.length sp gV (fun _ => E) tk) :=
  pe_callKS (E := fun _ => E) F hr hg hm hk hb (fun σ pins H s e s' I h => hx pins σ H s e s' I h) hkw hall hks hdb hpl
structure DefG (P : Program) (w : World) (K : PySem.W.Frag) (mg : Str → Option Value) (base : Heap) (x : Str) (n : Nat) (f : Addr) (fd : FuncData) (ps : List Str) (sp : Sp) : Prop where
  ok : FnG P w K mg base CX0 n f fd ps sp
  g : mg x = some (.ref f)
  k : PySem.W.keepIn K (.ref f) = true
  b : Binds K fd ps []
def chD (ones tens : List Str) (hun : Str) (scales : List Str) : PyData := .tuple [.list (ones.map PyData.str), .list (tens.map PyData.str), .str hun, .list (scales.map PyData.str)]
theorem ch_dp {K : PySem.W.Frag} {H : Hp} {t o te sc : Addr} {ones tens : List Str} {hun : Str} {scales : List Str} (T : TabAt H t ones tens hun scales o te sc) : Dp K H (.ref t) (chD ones tens hun scales) :=
  .tup (SqT.of T.tup) (.cons (.lst (SqL.of T.lo) (wds_dp _)) (.cons (.lst (SqL.of T.lt) (wds_dp _)) (.cons (.str _) (.cons (.lst (SqL.of T.ls) (wds_dp _)) .nil))))
theorem ch_sh {ones tens : List Str} {hun : Str} {scales : List Str} (l1 : ones.length = 20) (l2 : tens.length = 8) (l3 : scales.length ≤ 20) (g : GoodRow (ones ++ (tens ++ hun :: scales))) : Sh 2000 2 (chD ones tens hun scales) := by
  have ok : ∀ x, GoodWord x → x.length ≤ 21 ∧ ∀ c ∈ x.cps.toList, c < 128 := fun x h => ⟨by have := h.2.1; omega, fun c hc => by have := h.2.2 c hc; omega⟩
  have a1 : ∀ x ∈ ones, x.length ≤ 21 ∧ ∀ c ∈ x.cps.toList, c < 128 := fun x hx => ok x (g.ok x (List.mem_append_left _ hx))
  have a2 : ∀ x ∈ tens, x.length ≤ 21 ∧ ∀ c ∈ x.cps.toList, c < 128 := fun x hx => ok x (g.ok x (List.mem_append_right _ (List.mem_append_left _ hx)))
  have a3 := ok hun (g.ok hun (List.mem_append_right _ (List.mem_append_right _ List.mem_cons_self)))
  have a4 : ∀ x ∈ scales, x.length ≤ 21 ∧ ∀ c ∈ x.cps.toList, c < 128 := fun x hx => ok x (g.ok x (List.mem_append_right _ (List.mem_append_right _ (List.mem_cons_of_mem _ hx))))
  refine Sh.mono (Sh.tup (ShA.cons (Sh.list (ShA.strs a1)) (ShA.cons (Sh.list (ShA.strs a2)) (ShA.cons ((Sh.str a3.1 a3.2).mono (Nat.le_refl _) (Nat.zero_le 1)) (ShA.cons (Sh.list (ShA.strs a4)) (ShA.nil.mono (Nat.le_refl _) (Nat.zero_le 1))))))) ?_ (Nat.le_refl _)
  omega
theorem its_sh : ∀ {p : List It}, (∀ x ∈ p, TmI x) → ShA (21 * p.length) 0 (p.map dI)
  | [], _ => .nil
  | x :: p, h => by
    have hx := h x List.mem_cons_self
    have s : Sh 20 0 (dI x) := by
      cases x with
      | none => exact Sh.none.mono (by decide) (Nat.le_refl _)
      | some z => exact (Sh.str (hx z rfl).1 (hx z rfl).2)
    refine (ShA.cons s (its_sh fun y hy => h y (List.mem_cons_of_mem _ hy))).mono ?_ (Nat.le_refl _)
    rw [List.length_cons]
    omega
theorem ShU.bool {b : Bool} : Sh 5 0 (.bool b) := by
  cases b <;> exact ⟨rfl, rfl, by decide, by decide +kernel, by decide +kernel⟩
def spRightP : Sp := fun vs H Q _ => ∃ (p : Addr) (d s c : Int) (t o te sc : Addr) (ones tens : List Str) (hun : Str) (scales : List Str), vs = [.ref p, .ref t] ∧ RngAtD H p d s c ∧ Tab H t ones tens hun scales o te sc ∧ t ≠ p ∧ o ≠ p ∧ te ≠ p ∧ sc ≠ p ∧ scales.length ≤ 20 ∧ c < 2 ^ 27 ∧
  ∀ (d' c' : Int) (H' : Hp), RngAtD H' p d' s c' → c' ≤ c + 1000 → (∀ q o, H q = some o → q ≠ p → H' q = some o) → Q (.bl true) H'
section
variable {P : Program} {w : World} {K : PySem.W.Frag} {mg : Str → Option Value} {base : Heap}
theorem scRightP : FnScope ["pool", "book", "value", "other", "some", "wanted", "due", "kept", "told"] ["pool", "book"] (defScope sRight) := ⟨rfl, rfl, rfl, by decide +kernel, rfl, by decide +kernel, by decide +kernel⟩
theorem ok_rightP {f fV fW fM fF fN : Addr} {fd dV dW dM dF dN : FuncData} {g : List Value → List Value → List Value} (F : Fun K "_law_right" "_law_right" sRight f fd) (Va : Def1 P w K mg base "_law_value" 2 fV dV ["pool", "book"] spValueD) (Wd : Def1 P w K mg base "_law_words" 2 fW dW ["book", "value"] spWordsD)
    (Ma : Def1 P w K mg base "_law_matched" 1 fM dM ["some", "wanted"] (spMatched K)) (Fi : Def1 P w K mg base "fits" 5 fF dF ["table", "pattern", "number"] (spFits K)) (kw : KBn K dF ["table", "pattern", "number"] 0 ["number", "pattern", "table"] g (fun _ zs => [zs.getD 2 .non, zs.getD 1 .non, zs.getD 0 .non]))
    (Wn : Def1 P w K mg base "_law_wanted" 2 fN dN ["pool", "book", "some"] spWanted) (mP : mg "repr" = none) : FnG P w K mg base CX0 6 f fd ["pool", "book"] spRightP := by
  refine okG F scRightP (fun vs H Q E h => ?_) (fun cdv A outer s H vs Q E gd hr h => ?_)
  · obtain ⟨p, d, s, c, t, o, te, sc, ones, tens, hun, scales, rfl, _⟩ := h
    rfl
  · obtain ⟨p, d, sd, c, t, o, te, sc, ones, tens, hun, scales, rfl, B, T, tp, op, tep, scp, l20, c27, k⟩ := h
    have hr5 : Room 5 _ := hr
    have hr2 : Room 2 _ := hr.mono (by decide)
    have hr1 : Room 1 _ := hr.mono (by decide)
    have big : 3000 ≤ sizeLine := by decide
    refine ⟨_, pss_cons (ps_par (i := 2) (j := 3) (by rfl) scRightP.nd rfl rfl (by decide) rfl rfl (pa_cons (pe_call Va.ok hr2 (by rfl) Va.g Va.k Va.b .nil pass0 (pa_cons (pv 0) (pa_cons (pv 1) pa_nil))) (pa_cons (pe_call Va.ok hr2 (by rfl) Va.g Va.k Va.b .nil pass0 (pa_cons (pv 0) (pa_cons (pv 1) pa_nil))) pa_nil)) (by rfl))
        (pss_cons (ps_set (i := 4) scRightP.nd rfl (.inl rfl) (pe_call Wd.ok hr2 (by rfl) Wd.g Wd.k Wd.b .nil pass0 (pa_cons (pv 1) (pa_cons (pv 2) pa_nil))))
        (pss_cons (ps_for PassesOwn.never rfl (pi_list (pe_lst (pa_cons (pe_call Wn.ok hr2 (by rfl) Wn.g Wn.k Wn.b .nil pass0 (pa_cons (pv 0) (pa_cons (pv 1) (pa_cons (pv 4) pa_nil)))) (pa_cons (pe_call Wn.ok hr2 (by rfl) Wn.g Wn.k Wn.b .nil pass0 (pa_cons (pv 0) (pa_cons (pv 1) (pa_cons (pe_call Wd.ok hr2 (by rfl) Wd.g Wd.k Wd.b .nil pass0 (pa_cons (pv 1) (pa_cons (pv 3) pa_nil))) pa_nil)))) (pa_cons (pe_slice sl_list (pv 4) po_none (po_some pe_int)) pa_nil))))) (pg_name (i := 5) scRightP.nd rfl (.inl rfl))
          (pss_cons (ps_par (i := 6) (j := 7) (by rfl) scRightP.nd rfl rfl (by decide) rfl rfl (pa_cons (pe_call Ma.ok hr1 (by rfl) Ma.g Ma.k Ma.b .nil pass0 (pa_cons (pv 4) (pa_cons (pv 5) pa_nil))) (pa_cons (pe_callB (call_repr (by exact gd) hr.units) (by rfl) mP (by decide +kernel) (pa_cons (pe_lst (pa_cons (pv 1) (pa_cons (pv 5) pa_nil))) pa_nil)) pa_nil)) (by rfl))
        (pss_cons (ps_set (i := 8) scRightP.nd rfl (.inl rfl) (pe_lst (pa_cons (pe_call Fi.ok hr5 (by rfl) Fi.g Fi.k Fi.b .nil pass0 (pa_cons (pv 1) (pa_cons (pv 5) (pa_cons (pv 2) pa_nil)))) (pa_cons (pe_callK0 Fi.ok hr5 (by rfl) Fi.g Fi.k kw pass0 (pk_cons (pv 2) (pk_cons (pv 5) (pk_cons (pv 1) pk_nil)))) pa_nil))))
        (pss_one (ps_if (PW.pt (pw_or (pt_cmpR op_ne (pe_callB (call_repr (by exact gd) hr.units) (by rfl) mP (by decide +kernel) (pa_cons (pv 8) pa_nil)) (pe_callB (call_repr (by exact gd) hr.units) (by rfl) mP (by decide +kernel) (pa_cons (pe_lst (pa_cons (pv 6) (pa_cons (pv 6) pa_nil))) pa_nil)) (nomark _)) (pw_or1 (pt_cmpR op_ne (pe_callB (call_repr (by exact gd) hr.units) (by rfl) mP (by decide +kernel) (pa_cons (pe_lst (pa_cons (pv 1) (pa_cons (pv 5) pa_nil))) pa_nil)) (pv 7) (nomark _))))) (pss_one (ps_ret pe_bl)) pss_nil)))))
        (pss_one (ps_ret pe_bl)))), ?_⟩
    have l1 := T.tb.l1
    have l2 := T.tb.l2
    have keepT : ∀ {G : Hp}, KeepP p H G → Tab G t ones tens hun scales o te sc := fun K => ⟨⟨⟨K _ _ T.tb.at_.tup tp, K _ _ T.tb.at_.lo op, K _ _ T.tb.at_.lt tep, K _ _ T.tb.at_.ls scp⟩, T.tb.l1, T.tb.l2, T.tb.l3, T.tb.nd⟩, T.good⟩
    refine ⟨_, rfl, _, rfl, p, t, d, sd, c, o, te, sc, ones, tens, hun, scales, rfl, B, by omega, T.tb.at_, l20, fun va d1 c1 H1 v0 v1 B1 e1 K1 => ?_⟩
    have T1 := keepT K1
    refine ⟨_, rfl, _, rfl, p, t, d1, sd, c1, o, te, sc, ones, tens, hun, scales, rfl, B1, by omega, T1.tb.at_, l20, fun oa d2 c2 H2 o0 o1 B2 e2 K2 => ?_⟩
    have K12 := K1.trans K2
    have T2 := keepT K12
    refine ⟨_, _, rfl, ?_⟩
    refine ⟨_, rfl, _, rfl, t, o, te, sc, ones, tens, hun, scales, va, rfl, T2.tb.at_, l1, l2, l20, v0, v1, fun q H3 nq s3 hq => ?_⟩
    obtain ⟨ws, hws⟩ : ∃ ws, ws = nmL ones tens hun scales va := ⟨_, rfl⟩
    have hq : H3 q = some (.lst (ws.map V.str)) := by rw [hws]; exact hq
    have gws : ∀ w ∈ ws, GoodWord w := by rw [hws]; exact nm_good T.good va
    have lws : ws.length ≤ 200 := by
      have := nm_len (ones := ones) (tens := tens) (hun := hun) (scales := scales) va
      rw [hws]
      omega
    have nws : ∀ w ∈ ws, w ≠ "" := fun w hw e => by
      have := (gws w hw).1
      rw [e] at this
      exact absurd this (by decide)
    have qp : q ≠ p := B2.ne nq
    have B3 := B2.same s3
    have K3 : KeepP p H H3 := K12.trans (KeepP.of s3)
    have T3 := keepT K3
    -- the three patterns
    refine ⟨_, rfl, _, rfl, _, rfl, p, d2, sd, c2, t, o, te, sc, ones, tens, hun, scales, q, ws, rfl, B3, T3.tb.at_, tp, op, tep, scp, l1, l2, l20, T.good, hq, qp, lws, gws, by omega, fun w1 p1 d4 c4 H4 nw1 hw1 lp1 tm1 B4 e4 K4 => ?_⟩
    have K4 : KeepP p H3 H4 := K4
    have K04 := K3.trans K4
    have T4 := keepT K04
    refine ⟨_, rfl, _, rfl, _, rfl, _, rfl, t, o, te, sc, ones, tens, hun, scales, oa, rfl, T4.tb.at_, l1, l2, l20, o0, o1, fun q2 H5 nq2 s5 hq2 => ?_⟩
    obtain ⟨ws2, hws2⟩ : ∃ ws, ws = nmL ones tens hun scales oa := ⟨_, rfl⟩
    have hq2 : H5 q2 = some (.lst (ws2.map V.str)) := by rw [hws2]; exact hq2
    have gws2 : ∀ w ∈ ws2, GoodWord w := by rw [hws2]; exact nm_good T.good oa
    have lws2 : ws2.length ≤ 200 := by
      have := nm_len (ones := ones) (tens := tens) (hun := hun) (scales := scales) oa
      rw [hws2]
      omega
    have q2p : q2 ≠ p := B4.ne nq2
    have B5 := B4.same s5
    have K05 : KeepP p H H5 := K04.trans (KeepP.of s5)
    have T5 := keepT K05
    refine ⟨p, d4, sd, c4, t, o, te, sc, ones, tens, hun, scales, q2, ws2, rfl, B5, T5.tb.at_, tp, op, tep, scp, l1, l2, l20, T.good, hq2, q2p, lws2, gws2, by omega, fun w2 p2 d6 c6 H6 nw2 hw2 lp2 tm2 B6 e6 K6 => ?_⟩
    have K6 : KeepP p H5 H6 := K6
    have K06 := K05.trans K6
    have w1p : w1 ≠ p := B3.ne nw1
    have hq6 := K6 _ _ (s5 _ _ (K4 _ _ hq qp)) qp
    have hw16 := K6 _ _ (s5 _ _ hw1) w1p
    refine ⟨_, rfl, _, rfl, q, _, rfl, SqL.of hq6, fun w3 nw3 => ?_⟩
    have s7 := same_more (x := .lst (cutV (ws.map V.str) none (some 30))) (Same.refl H6) nw3
    obtain ⟨p3, hp3⟩ : ∃ p3 : List It, p3 = (ws.take 30).map some := ⟨_, rfl⟩
    have hw3 : upd H6 w3 (.lst (cutV (ws.map V.str) none (some 30))) w3 = some (.lst (p3.map vI)) := by
      rw [upd_same, cut_30, hp3, ← List.map_take, List.map_map]
      rfl
    have lp3 : p3.length ≤ 30 := by
      rw [hp3, List.length_map, List.length_take]
      omega
    have tm3 : ∀ x ∈ p3, TmI x := fun x hx => by
      rw [hp3] at hx
      obtain ⟨z, hz, rfl⟩ := List.mem_map.mp hx
      exact TmI.word (gws z (List.mem_of_mem_take hz))
    generalize upd H6 w3 (.lst (cutV (ws.map V.str) none (some 30))) = H7 at s7 hw3
    refine ⟨by show 3 ≤ sizeLine; omega, fun U nU => ?_⟩
    have s8 := same_more (x := .lst [.ref w1, .ref w2, .ref w3]) s7 nU
    have hU : upd H7 U (.lst [.ref w1, .ref w2, .ref w3]) U = some (.lst [.ref w1, .ref w2, .ref w3]) := upd_same
    have hw3' := upd_keep (x := .lst [.ref w1, .ref w2, .ref w3]) hw3 nU
    generalize upd H7 U (.lst [.ref w1, .ref w2, .ref w3]) = H8 at s8 hU hw3'
    have K08 : KeepP p H H8 := K06.trans (KeepP.of s8)
    have T8 := keepT K08
    have chS := ch_sh l1 l2 l20 T.good
    refine ⟨U, rfl, ⟨_, SqL.of hU⟩, for_list (K := K) (a := U) (xs := [.ref w1, .ref w2, .ref w3]) (fun i σ G => ∃ x5 x6 x7 x8 : Option V, σ = [some (.ref p), some (.ref t), some (.int va), some (.int oa), some (.ref q), x5, x6, x7, x8] ∧ Same H8 G) ⟨none, none, none, none, rfl, Same.refl _⟩ (fun i σ G _ ⟨_, _, _, _, _, s⟩ => SqL.of (s _ _ hU)) ?_ ?_⟩
    · rintro i y σ G hi ⟨x5, x6, x7, x8, rfl, sG⟩
      obtain ⟨l, pat, rfl, hl, lp, tm⟩ : ∃ (l : Addr) (pat : List It), y = .ref l ∧ G l = some (.lst (pat.map vI)) ∧ pat.length ≤ 30 ∧ ∀ x ∈ pat, TmI x := by
        match i, hi with
        | 0, hi => exact ⟨w1, p1, (Option.some.inj hi).symm, sG _ _ (s8 _ _ hw16), lp1, tm1⟩
        | 1, hi => exact ⟨w2, p2, (Option.some.inj hi).symm, sG _ _ (s8 _ _ hw2), lp2, tm2⟩
        | 2, hi => exact ⟨w3, p3, (Option.some.inj hi).symm, sG _ _ hw3', lp3, tm3⟩
        | (i + 3), hi => exact nomatch hi
      have TG := T8.same sG
      have hqG := sG _ _ (s8 _ _ hq6)
      have shP : Sh 4000 3 (.list [chD ones tens hun scales, .list (pat.map dI)]) := (Sh.list (ShA.cons chS (ShA.cons ((Sh.list (its_sh tm)).mono (Nat.le_refl _) (by decide)) (ShA.nil.mono (Nat.le_refl _) (Nat.zero_le 2))))).mono (by omega) (Nat.le_refl _)
      have dpP : ∀ {J : Hp} {L : Addr}, Same G J → J L = some (.lst [.ref t, .ref l]) → Dp K J (.ref L) (.list [chD ones tens hun scales, .list (pat.map dI)]) := fun s h => .lst (SqL.of h) (.cons (ch_dp (TG.same s).tb.at_) (.cons (.lst (SqL.of (s _ _ hl)) (it_dp _)) .nil))
      refine ⟨_, rfl, _, rfl, q, l, ws, pat, rfl, SqL.of hqG, SqL.of hl, lws, nws, fun b G1 g1 hb => ?_⟩
      refine ⟨_, rfl, _, rfl, by show 2 ≤ sizeLine; omega, fun L nL => ?_⟩
      have g2 := same_more (x := .lst [.ref t, .ref l]) g1 nL
      dsimp only [tNil]
      refine Sh.repr shP (by decide) (by decide) (dpP g2 upd_same) ?_
      obtain ⟨kept, hkept⟩ : ∃ x, x = (PyData.list [chD ones tens hun scales, .list (pat.map dI)]).shown := ⟨_, rfl⟩
      rw [← hkept]
      refine ⟨_, _, rfl, ?_⟩
      have TG2 := TG.same g2
      refine ⟨_, rfl, _, rfl, _, rfl, t, o, te, sc, ones, tens, hun, scales, l, pat, va, rfl, TG2, v0, v1, SqL.of (g2 _ _ hl), by omega, fun x hx => (tm x hx).ok, fun b1 G3 g3 hb1 => ?_⟩
      have g23 := Same.trans g2 g3
      refine ⟨_, rfl, _, rfl, _, rfl, rfl, t, o, te, sc, ones, tens, hun, scales, l, pat, va, rfl, TG.same g23, v0, v1, SqL.of (g23 _ _ hl), by omega, fun x hx => (tm x hx).ok, fun b2 G4 g4 hb2 => ?_⟩
      rw [← hws] at hb1 hb2
      have eb1 : b1 = b := Bool.eq_iff_iff.mpr (hb1.trans hb.symm)
      have eb2 : b2 = b := Bool.eq_iff_iff.mpr (hb2.trans hb.symm)
      rw [eb1, eb2]
      have g234 := Same.trans g23 g4
      refine ⟨by show 2 ≤ sizeLine; omega, fun M nM => ?_⟩
      have g5 := same_more (x := .lst [.bl b, .bl b]) g234 nM
      have shB : Sh 12 1 (.list [.bool b, .bool b]) := (Sh.list (ShA.cons ShU.bool (ShA.cons ShU.bool ShA.nil))).mono (by decide) (Nat.le_refl _)
      have hM : upd G4 M (.lst [.bl b, .bl b]) M = some (.lst [.bl b, .bl b]) := upd_same
      refine ⟨_, rfl, ?_⟩
      dsimp only [tNil]
      refine Sh.repr shB (by decide) (by decide) (.lst (SqL.of hM) (.cons (.bl b) (.cons (.bl b) .nil))) ?_
      refine ⟨_, rfl, _, rfl, by show 2 ≤ sizeLine; omega, fun N nN => ?_⟩
      have g6 := same_more (x := .lst [.bl b, .bl b]) g5 nN
      dsimp only [tNil]
      refine Sh.repr shB (by decide) (by decide) (.lst (SqL.of upd_same) (.cons (.bl b) (.cons (.bl b) .nil))) ?_
      refine ⟨rfl, _, rfl, ?_⟩
      rw [decide_eq_true rfl]
      refine ite2 (fun z => by cases z) (fun _ => ?_)
      refine ⟨_, rfl, _, rfl, by show 2 ≤ sizeLine; omega, fun R nR => ?_⟩
      have g7 := same_more (x := .lst [.ref t, .ref l]) g6 nR
      dsimp only [tNil]
      refine Sh.repr shP (by decide) (by decide) (dpP g7 upd_same) ?_
      refine ⟨_, rfl, rfl, _, rfl, ?_⟩
      rw [← hkept, decide_eq_true rfl]
      refine ite2 (fun z => by cases z) (fun _ => ?_)
      exact ⟨_, _, _, _, rfl, Same.trans sG g7⟩
    · rintro σ G ⟨x5, x6, x7, x8, rfl, sG⟩
      exact k d6 c6 G ((B6.same s8).same sG) (by omega) (K08.trans (KeepP.of sG))

end
end LB
set_option Elab.async false
set_option linter.all false
set_option maxRecDepth 100000
set_option maxHeartbeats 4000000
/-! Patterns: the law. -/
namespace LB
open PySem L2 Wk
open Bg (Bg Wo)
/-- the ends, found -/
def stL (ws : List Str) (x : It) (S : List Nat) : List Nat := if isGap x = true then (List.range (ws.length + 1)).filter (fun e => S.any fun j => decide (j ≤ e)) else
  S.filterMap fun j => match ws[j]? with
    | some w => if takesW x w = true then some (j + 1) else none
    | none => none
def endsL (ws : List Str) (p : List It) : List Nat := p.foldl (fun S x => stL ws x S) [0]
theorem stL_ok {ws : List Str} {x : It} {S : List Nat} {T : Nat → Prop} (h : ∀ e, e ∈ S ↔ T e) (e : Nat) : e ∈ stL ws x S ↔ stp ws x T e := by
  unfold stL stp
  by_cases g : isGap x = true
  · rw [if_pos g, if_pos g, List.mem_filter, List.mem_range, List.any_eq_true]
    constructor
    · rintro ⟨a, j, hj, d⟩
      exact ⟨by omega, j, of_decide_eq_true d, (h j).mp hj⟩
    · rintro ⟨a, j, jl, hj⟩
      exact ⟨by omega, j, (h j).mpr hj, decide_eq_true jl⟩
  · rw [if_neg g, if_neg g, List.mem_filterMap]
    constructor
    · rintro ⟨j, hj, e1⟩
      cases c : ws[j]? with
      | none => rw [c] at e1; cases e1
      | some w =>
        rw [c] at e1
        simp only at e1
        by_cases t : takesW x w = true
        · rw [if_pos t] at e1
          exact ⟨j, w, (Option.some.inj e1).symm, (h j).mp hj, c, t⟩
        · rw [if_neg t] at e1
          cases e1
    · rintro ⟨j, w, rfl, hj, hw, t⟩
      refine ⟨j, (h j).mpr hj, ?_⟩
      rw [hw]
      simp only
      rw [if_pos t]
theorem endsL_ok (ws : List Str) (p : List It) (e : Nat) : e ∈ endsL ws p ↔ mts ws p e := by
  have key : ∀ (q : List It) (S : List Nat) (T : Nat → Prop), (∀ e, e ∈ S ↔ T e) → ∀ e, e ∈ q.foldl (fun S x => stL ws x S) S ↔ q.foldl (fun S x => stp ws x S) T e := by
    intro q
    induction q with
    | nil => exact fun S T h => h
    | cons x q ih => exact fun S T h => ih _ _ (stL_ok h)
  exact key p [0] _ (fun e => List.mem_singleton) e
abbrev en1 (n : Int) : List Str := nmL engO engT "hundred" (engS.take 1) n
theorem f1_no : ¬ mts (en1 0) [] (en1 0).length := by rw [← endsL_ok]; decide +kernel
theorem f2_yes : mts (en1 0) [gp, gp, gp] (en1 0).length := by rw [← endsL_ok]; decide +kernel
theorem f3_no : ¬ mts (en1 21) [none] (en1 21).length := by rw [← endsL_ok]; decide +kernel
theorem f4_yes : mts (en1 1005) [gp, some ("five" : Str)] (en1 1005).length := by rw [← endsL_ok]; decide +kernel
theorem f5_no : ¬ mts (en1 5) [some ("five" : Str), none] (en1 5).length := by rw [← endsL_ok]; decide +kernel
theorem NewTab.tabO {H H' : Hp} {t o te sc : Addr} {ones tens : List Str} {hun : Str} {scales : List Str} (N : NewTab H H' t o te sc ones tens hun scales) (l : scales.length ≤ 20) : Tab H' t ones tens hun scales o te sc :=
  ⟨⟨N.at_, N.l1, N.l2, by omega, N.good.nd⟩, N.good⟩
theorem pick2p {r : Int} (r0 : 0 ≤ r) (r1 : r < 2) : ∃ m : Int, atI [V.int 3, V.int 21] r = some (.int m) ∧ 0 < m ∧ m ≤ 21 := by
  rcases (show r = 0 ∨ r = 1 by omega) with rfl | rfl
  · exact ⟨3, rfl, by decide, by decide⟩
  · exact ⟨21, rfl, by decide, by decide⟩
def spLawO (K : PySem.W.Frag) : Sp := fun vs H Q _ => ∃ (a : Addr) (ns : List Int), vs = [.ref a] ∧ SqL K H a (ns.map V.int) ∧ ns.length ≤ 63 ∧ ∀ H', Q (.bl true) H'
section
variable {P : Program} {w : World} {K : PySem.W.Frag} {mg : Str → Option Value} {base : Heap}
theorem scLawP : FnScope ["script", "at", "pool", "turn", "book", "lap"] ["script"] (defScope sLaw) := ⟨rfl, rfl, rfl, by decide +kernel, rfl, by decide +kernel, by decide +kernel⟩
theorem ok_lawP {f fP fD fB fR fE fF : Addr} {fd dP dD dB dR dE dF : FuncData} (F : Fun K "law" "law" sLaw f fd) (Po : Def1 P w K mg base "_law_pool" 1 fP dP ["script", "at"] (spPool K)) (D : Def1 P w K mg base "_law_draw" 1 fD dD ["pool", "many"] spDrawD)
    (Bk : Def1 P w K mg base "_law_book" 3 fB dB ["pool", "scales_here"] spBook) (R : DefG P w K mg base "_law_right" 6 fR dR ["pool", "book"] spRightP)
    (En : Def1 P w K mg base "_law_english" 1 fE dE ["scales_here"] spEnglishW) (Fi : Def1 P w K mg base "fits" 5 fF dF ["table", "pattern", "number"] (spFits K)) (mL : mg "len" = none) (mR : mg "range" = none) (mX : mg "max" = none) (mN : mg "min" = none) : FnG P w K mg base CX0 7 f fd ["script"] (spLawO K) := by
  refine okG F scLawP (fun vs H Q E h => ?_) (fun cdv A outer s H vs Q E gd hr h => ?_)
  · obtain ⟨a, ns, rfl, _⟩ := h
    rfl
  · obtain ⟨a, ns, rfl, hS, hl, k⟩ := h
    have hr5 : Room 5 _ := hr.mono (by decide)
    have hr3 : Room 3 _ := hr.mono (by decide)
    have hr1 : Room 1 _ := hr.mono (by decide)
    refine ⟨_, pss_mid (ps_for PassesOwn.never rfl (pi_range1 rfl mR (pa_cons (pe_callB (call_max2 rfl) (by rfl) mX (by decide +kernel) (pa_cons pe_int (pa_cons (pe_callB (call_min2 rfl) (by rfl) mN (by decide +kernel) (pa_cons pe_int (pa_cons (pe_callB call_len_seq (by rfl) mL PySem.boot_len (pa_cons (pv 0) pa_nil)) pa_nil))) pa_nil))) pa_nil)) (pg_name (i := 1) scLawP.nd rfl (.inl rfl)) (pss_cons (ps_set (i := 2) scLawP.nd rfl (by first | exact .inl rfl | exact .inr rfl) (pe_call Po.ok hr1 (by rfl) Po.g Po.k Po.b .nil pass0 (pa_cons (pv 0) (pa_cons (pv 1) pa_nil))))
        (pss_one (ps_for PassesOwn.never rfl (pi_range1 rfl mR (pa_cons pe_int pa_nil)) (pg_name (i := 3) scLawP.nd rfl (.inl rfl)) (pss_cons (ps_set (i := 4) scLawP.nd rfl (by first | exact .inl rfl | exact .inr rfl) (pe_call Bk.ok hr3 (by rfl) Bk.g Bk.k Bk.b .nil pass0 (pa_cons (pv 2) (pa_cons (pe_call D.ok hr1 (by rfl) D.g D.k D.b .nil pass0 (pa_cons (pv 2) (pa_cons (pe_ix ix_list (pe_lst (pa_cons pe_int (pa_cons pe_int pa_nil))) (pe_call D.ok hr1 (by rfl) D.g D.k D.b .nil pass0 (pa_cons (pv 2) (pa_cons pe_int pa_nil))) (fun _ _ => rfl)) pa_nil))) pa_nil))))
        (pss_one (ps_if (pt_cmpR (op_neD hr.units) (pe_lc (own := [("lap", 5)]) (g := gName 5) (by rfl) scLawP.nd (pi_range1 rfl mR (pa_cons pe_int pa_nil)) (blkOk_by (own := [("lap", 5)]) (N := ["script", "at", "pool", "turn", "book", "lap"]) (sc := defScope sLaw) (by decide +kernel)) (fun _ _ _ _ _ => pg_name (i := 5) scLawP.nd rfl (Or.inl rfl)) (fun _ _ _ _ _ => pts_one (pt_not (pt_val (pe_callG R.ok (by exact gd) hr (by rfl) R.g R.k R.b .nil pass0 (pa_cons (pv 2) (pa_cons (pv 4) pa_nil)))))) (fun _ _ _ _ _ => pv 5)) (pe_lst pa_nil) (nomark _)) (pss_one (ps_ret pe_bl)) pss_nil)))))))
        (pss_cons (ps_set (i := 4) scLawP.nd rfl (by first | exact .inl rfl | exact .inr rfl) (pe_call En.ok hr1 (by rfl) En.g En.k En.b .nil pass0 (pa_cons pe_int pa_nil)))
        (pss_cons (ps_if (PW.pt (pw_or (pt_val (pe_call Fi.ok hr5 (by rfl) Fi.g Fi.k Fi.b .nil pass0 (pa_cons (pv 4) (pa_cons (pe_lst pa_nil) (pa_cons pe_int pa_nil))))) (pw_or (pt_not (pt_val (pe_call Fi.ok hr5 (by rfl) Fi.g Fi.k Fi.b .nil pass0 (pa_cons (pv 4) (pa_cons (pe_lst (pa_cons pe_str (pa_cons pe_str (pa_cons pe_str pa_nil)))) (pa_cons pe_int pa_nil)))))) (pw_or1 (pt_val (pe_call Fi.ok hr5 (by rfl) Fi.g Fi.k Fi.b .nil pass0 (pa_cons (pv 4) (pa_cons (pe_lst (pa_cons pe_non pa_nil)) (pa_cons pe_int pa_nil))))))))) (pss_one (ps_ret pe_bl)) pss_nil)
        (pss_one (ps_ret (pe_and (pe_call Fi.ok hr5 (by rfl) Fi.g Fi.k Fi.b .nil pass0 (pa_cons (pv 4) (pa_cons (pe_lst (pa_cons pe_str (pa_cons pe_str pa_nil))) (pa_cons pe_int pa_nil)))) (pe_one (pe_not (pe_call Fi.ok hr5 (by rfl) Fi.g Fi.k Fi.b .nil pass0 (pa_cons (pv 4) (pa_cons (pe_lst (pa_cons pe_str (pa_cons pe_non pa_nil))) (pa_cons pe_int pa_nil))))))))))), ?_⟩
    have small : ∀ {n : Nat}, n < 2 ^ 10 → n < 2 ^ 1000 := fun h => Nat.lt_of_lt_of_le h (Nat.pow_le_pow_right (by decide) (by decide))
    have big : 3000 ≤ sizeLine := by decide
    refine ⟨fun τ G => ∃ x1 x2 x3 x4 : Option V, τ = [some (.ref a), x1, x2, x3, x4, none] ∧ Same H G, ?_, ?_⟩
    · have hm : ∃ m : Nat, (if (if (((ns.map V.int).length : Nat) : Int) < 6 then (((ns.map V.int).length : Nat) : Int) else 6) > 1 then (if (((ns.map V.int).length : Nat) : Int) < 6 then (((ns.map V.int).length : Nat) : Int) else 6) else 1) = (m : Int) ∧ m ≤ 6 := by
        refine ⟨(if (if (((ns.map V.int).length : Nat) : Int) < 6 then (((ns.map V.int).length : Nat) : Int) else 6) > 1 then (if (((ns.map V.int).length : Nat) : Int) < 6 then (((ns.map V.int).length : Nat) : Int) else 6) else 1).toNat, ?_, ?_⟩ <;> (repeat' split) <;> omega
      obtain ⟨m, em, m8⟩ := hm
      refine ⟨_, rfl, a, _, rfl, .inl hS, _, _, rfl, _, _, rfl, (m : Int), congrArg (fun z => [V.int z]) em, by omega, by omega, ?_⟩
      refine for_range (lo := 0) (n := ((m : Nat) : Int).toNat) (fun i σ G => ∃ x1 x2 x3 x4 : Option V, σ = [some (.ref a), x1, x2, x3, x4, none] ∧ Same H G) ⟨none, none, none, none, rfl, Same.refl H⟩ ?_ (fun σ G h => h)
      rintro i σ G hi ⟨x1, x2, x3, x4, rfl, sG⟩
      refine ⟨_, rfl, _, rfl, a, ns, i, by rw [Int.zero_add]; rfl, sG.seq hS, by omega, fun p d s G1 np R1 s1 => ?_⟩
      refine ⟨3, rfl, by decide, by decide, for_range (lo := 0) (n := (3 : Int).toNat) (fun j σ G2 => ∃ (x3 x4 : Option V) (d c : Int), σ = [some (.ref a), some (.int (0 + (i : Int))), some (.ref p), x3, x4, none] ∧ RngAtD G2 p d s c ∧ c ≤ 10000 * (j : Int) ∧ KeepP p G1 G2)
        ⟨x3, x4, d, 0, rfl, R1, by omega, fun q o e _ => e⟩ ?_ ?_⟩
      · rintro j σ G2 hj ⟨x3, x4, d, c, rfl, R2, e2, K2⟩
        have j3 : j < 3 := hj
        refine ⟨_, rfl, _, rfl, by show 2 ≤ sizeLine; omega, fun L nL => ?_⟩
        have sL := same_more (x := .lst [.int 3, .int 21]) (Same.refl G2) nL
        have Lp : L ≠ p := R2.ne nL
        refine ⟨_, rfl, p, d, s, c, 2, rfl, R2.same sL, by decide, small (by decide), by omega, fun r d1 c1 G3 r0 r1 e3 R3 K3 => ?_⟩
        have K3 : KeepP p _ G3 := K3
        obtain ⟨m, hm, m0, m21⟩ := pick2p r0 r1
        refine ⟨L, _, _, _, rfl, rfl, SqL.of (K3 _ _ upd_same Lp), hm, p, d1, s, c1, m, rfl, R3, m0, small (by omega), by omega, fun u d2 c2 G4 u0 u1 e4 R4 K4 => ?_⟩
        have K4 : KeepP p G3 G4 := K4
        refine ⟨p, d2, s, c2, u.toNat, by rw [Int.toNat_of_nonneg u0]; rfl, R4, by omega, by omega, fun t o te sc ones tens hun scales d5 c5 G5 N5 l5 R5 e5 K5 => ?_⟩
        have K5 : KeepP p G4 G5 := K5
        have l20 : scales.length ≤ 20 := by omega
        have tp := R4.ne N5.n0
        have op := R4.ne N5.n1
        have tep := R4.ne N5.n2
        have scp := R4.ne N5.n3
        have T5 := N5.tabO l20
        have K25 : KeepP p G1 G5 := (K2.trans ((KeepP.of sL).trans (K3.trans K4))).trans K5
        refine ⟨6, rfl, by decide, by decide, fun M nM => ?_⟩
        have Mp : M ≠ p := R5.ne nM
        have sM := same_more (x := .lst []) (Same.refl G5) nM
        refine lc_range (lo := 0) (n := 6) (fun q G6 => G6 M = some (.lst []) ∧ ∃ d6 c6 : Int, RngAtD G6 p d6 s c6 ∧ c6 ≤ c5 + 1000 * (q : Int) ∧ KeepP p G5 G6) ⟨upd_same, d5, c5, R5.same sM, by omega, KeepP.of sM⟩ ?_ ?_
        · rintro q G6 hq ⟨hM, d6, c6, R6, e6, K6⟩
          have T6 : Tab G6 t ones tens hun scales o te sc := ⟨⟨⟨K6 _ _ T5.tb.at_.tup tp, K6 _ _ T5.tb.at_.lo op, K6 _ _ T5.tb.at_.lt tep, K6 _ _ T5.tb.at_.ls scp⟩, T5.tb.l1, T5.tb.l2, T5.tb.l3, T5.tb.nd⟩, T5.good⟩
          refine ⟨rfl, ?_⟩
          refine ⟨_, rfl, _, rfl, p, d6, s, c6, t, o, te, sc, ones, tens, hun, scales, rfl, R6, T6, tp, op, tep, scp, l20, by omega, fun d7 c7 G7 R7 e7 K7 => ?_⟩
          exact ⟨true, rfl, K7 _ _ hM Mp, d7, c7, R7, by omega, K6.trans K7⟩
        · rintro G6 ⟨hM, d6, c6, R6, e6, K6⟩
          refine ⟨by show 0 ≤ sizeLine; omega, fun U nU => ⟨.list [], .list [], .lst (SqL.of (upd_keep hM nU)) .nil, .lst (SqL.of upd_same) .nil, by decide, by decide, ?_⟩⟩
          rw [show PyData.eqv (.list []) (.list []) = true from rfl]
          refine ⟨_, rfl, ite2 (fun z => by cases z) (fun _ => ?_)⟩
          have sU := same_more (x := .lst []) (Same.refl G6) nU
          exact ⟨_, _, d6, c6, rfl, R6.same sU, by omega, K25.trans (K6.trans (KeepP.of sU))⟩

      · rintro σ G2 ⟨x3, x4, d, c, rfl, R2, e2, K2⟩
        refine ⟨_, _, _, _, rfl, fun q o e => K2 _ _ (s1 _ _ (sG _ _ e)) fun z => ?_⟩
        rw [z] at e
        have := sG _ _ e
        rw [np] at this
        cases this
    rintro τ G ⟨x1, x2, x3, x4, rfl, sG⟩
    refine ⟨1, rfl, by decide, fun t o te sc G1 N1 q1 => ?_⟩
    have T1 := N1.tabO (by decide)
    have bnd : ∀ n : Int, 0 ≤ n → n < 1000000 → n < Bg.W ((engS.take 1).length + 1) := fun n _ h => by
      have : Bg.W ((engS.take 1).length + 1) = 1000000 := by decide +kernel
      omega
    have okm : ∀ p : List It, (p.all okI) = true → ∀ x ∈ p, okI x = true := fun p h => List.all_eq_true.mp h
    refine ⟨_, rfl, by show 0 ≤ sizeLine; omega, fun L1 n1 => ?_⟩
    have g1 := same_more (x := .lst []) (Same.refl G1) n1
    refine ⟨t, o, te, sc, engO, engT, "hundred", engS.take 1, L1, [], 0, rfl, T1.same g1, by decide, bnd 0 (by decide) (by decide), SqL.of upd_same, by decide, okm _ (by decide +kernel), fun b1 G2 s2 hb1 => ?_⟩
    have g2 := Same.trans g1 s2
    have e1 : b1 = false := Bool.eq_false_iff.mpr fun h => f1_no (hb1.mp h)
    subst e1
    refine ⟨false, rfl, ?_⟩
    refine ite2 (fun z => by cases z) (fun _ => ?_)
    refine ⟨_, rfl, by show 3 ≤ sizeLine; omega, fun L2 n2 => ?_⟩
    have g3 := same_more (x := .lst [.str "", .str "", .str ""]) g2 n2
    refine ⟨t, o, te, sc, engO, engT, "hundred", engS.take 1, L2, [gp, gp, gp], 0, rfl, T1.same g3, by decide, bnd 0 (by decide) (by decide), SqL.of upd_same, by decide, okm _ (by decide +kernel), fun b2 G3 s3 hb2 => ?_⟩
    have g4 := Same.trans g3 s3
    have e2 : b2 = true := hb2.mpr f2_yes
    subst e2
    refine ⟨true, rfl, ?_⟩
    refine ite2 (fun z => by cases z) (fun _ => ?_)
    refine ⟨_, rfl, by show 1 ≤ sizeLine; omega, fun L3 n3 => ?_⟩
    have g5 := same_more (x := .lst [.non]) g4 n3
    refine ⟨t, o, te, sc, engO, engT, "hundred", engS.take 1, L3, [none], 21, rfl, T1.same g5, by decide, bnd 21 (by decide) (by decide), SqL.of upd_same, by decide, okm _ (by decide +kernel), fun b3 G4 s4 hb3 => ?_⟩
    have g6 := Same.trans g5 s4
    have e3 : b3 = false := Bool.eq_false_iff.mpr fun h => f3_no (hb3.mp h)
    subst e3
    refine ⟨false, rfl, ?_⟩
    refine ite2 (fun z => by cases z) (fun _ => ?_)
    refine ⟨_, rfl, by show 2 ≤ sizeLine; omega, fun L4 n4 => ?_⟩
    have g7 := same_more (x := .lst [.str "", .str "five"]) g6 n4
    refine ⟨t, o, te, sc, engO, engT, "hundred", engS.take 1, L4, [gp, some "five"], 1005, rfl, T1.same g7, by decide, bnd 1005 (by decide) (by decide), SqL.of upd_same, by decide, okm _ (by decide +kernel), fun b4 G5 s5 hb4 => ?_⟩
    have g8 := Same.trans g7 s5
    have e4 : b4 = true := hb4.mpr f4_yes
    subst e4
    refine ⟨_, rfl, ite2 (fun _ => ?_) (fun c => absurd rfl c)⟩
    refine ⟨_, rfl, by show 2 ≤ sizeLine; omega, fun L5 n5 => ?_⟩
    have g9 := same_more (x := .lst [.str "five", .non]) g8 n5
    refine ⟨t, o, te, sc, engO, engT, "hundred", engS.take 1, L5, [some "five", none], 5, rfl, T1.same g9, by decide, bnd 5 (by decide) (by decide), SqL.of upd_same, by decide, okm _ (by decide +kernel), fun b5 G6 s6 hb5 => ?_⟩
    have e5 : b5 = false := Bool.eq_false_iff.mpr fun h => f5_no (hb5.mp h)
    subst e5
    exact ⟨_, rfl, k _⟩

end
end LB
set_option Elab.async false
set_option linter.all false
set_option maxRecDepth 100000
set_option maxHeartbeats 8000000
/-! What the top has written: tuples of texts, defs with a default. -/
namespace LB
open PySem L2 Wk
def isStrV : Value → Bool
  | .str _ _ => true
  | _ => false
theorem strs_vals : ∀ {l : List Value}, l.all isStrV = true → ∃ xs, xs.length = l.length ∧ Vals xs l
  | [], _ => ⟨[], rfl, .nil⟩
  | v :: l, h => by
    rw [List.all_cons, Bool.and_eq_true] at h
    obtain ⟨xs, e, r⟩ := strs_vals h.2
    cases v with
    | str x t => exact ⟨.str x :: xs, congrArg Nat.succ e, .cons ⟨t, rfl⟩ r⟩
    | _ => cases h.1
/-- a tuple of texts at the top -/
def TupAt (K : PySem.W.Frag) (x : Str) (n : Nat) (E : Addr) : Prop := PySem.W.nsIn K mainGlobals x = some (some (.ref E)) ∧ ∃ (o : Obj) (its : Array Value) (m : Nat), K.lookup E = some o ∧ o.cls = .type "tuple" ∧ o.data = .seq its m ∧ its.size = n ∧ its.toList.all isStrV = true
theorem tup_at {K : PySem.W.Frag} {x : Str} {n : Nat} {E : Addr} {o : Obj} {its : Array Value} {m : Nat} (a : PySem.W.nsIn K mainGlobals x = some (some (.ref E))) (l : K.lookup E = some o) (c : o.cls = .type "tuple") (d : o.data = .seq its m) (s : its.size = n)
    (f : its.toList.all isStrV = true) : TupAt K x n E := ⟨a, o, its, m, l, c, d, s, f⟩
theorem TupAt.seq {K : PySem.W.Frag} {x : Str} {n : Nat} {E : Addr} (h : TupAt K x n E) (hn : n ≤ 1000) : ∃ xs : List V, xs.length = n ∧ ∀ H, SqT K H E xs := by
  obtain ⟨_, o, its, m, l, c, d, s, f⟩ := h
  obtain ⟨xs, e, r⟩ := strs_vals f
  have big : 1000 ≤ sizeLine := by decide
  refine ⟨xs, e.trans (by rw [Array.length_toList, s]), fun H => .inr ⟨o, its, m, l, c, d, by omega, r⟩⟩
theorem defD_at {K : PySem.W.Frag} {x : Str} {st : Stmt} {f T : Addr} {oc : Value} {od : Option Addr} {kV doc pm : Value} {an : Option Addr} {cdv ct : Value} {osl : Array (Option Value)} {oT : Obj} {n : Nat} (a : PySem.W.nsIn K mainGlobals x = some (some (.ref f)))
    (l : K.lookup f = some ⟨oc, od, .func (PySem.W.fnOf x x (defArgs st) (defBody st) (defScope st) (.ref T) kV doc pm an cdv ct), osl⟩) (c : PySem.W.codeIn K cdv x = true) (lT : K.lookup T = some oT) (dT : oT.data = .seq #[.none] n) (k : PySem.W.keepIn K (.ref f) = true) : DefD K x st f :=
  ⟨a, ⟨_, _, _, _, _, _, _, _, _, _, l, c, _, _, lT, dT⟩, k⟩
end LB
set_option Elab.async false
set_option linter.all false
set_option maxRecDepth 100000
set_option maxHeartbeats 8000000
/-! k34: from what the top has written to the law. -/
namespace LB
open PySem L2 Wk
/-- a method's def as it stands -/
structure MAt (K : PySem.W.Frag) (x q : Str) (st : Stmt) (f : Addr) : Prop where
  fn : ∃ (oc : Value) (od : Option Addr) (kV doc pm : Value) (an : Option Addr) (cdv ct : Value) (osl : Array (Option Value)),
    K.lookup f = some ⟨oc, od, .func (PySem.W.fnOf x q (defArgs st) (defBody st) (defScope st) .none kV doc pm an cdv ct), osl⟩ ∧ PySem.W.codeIn K cdv q = true
  kf : PySem.W.keepIn K (.ref f) = true
  isf : PySem.W.isFn K (.ref f) = true
theorem m_at {K : PySem.W.Frag} {x q : Str} {st : Stmt} {f : Addr} {oc : Value} {od : Option Addr} {kV doc pm : Value} {an : Option Addr} {cdv ct : Value} {osl : Array (Option Value)}
    (l : K.lookup f = some ⟨oc, od, .func (PySem.W.fnOf x q (defArgs st) (defBody st) (defScope st) .none kV doc pm an cdv ct), osl⟩) (c : PySem.W.codeIn K cdv q = true) (k : PySem.W.keepIn K (.ref f) = true) (i : PySem.W.isFn K (.ref f) = true) : MAt K x q st f :=
  ⟨⟨_, _, _, _, _, _, _, _, _, l, c⟩, k, i⟩
/-- the class as it stands -/
structure RTop (K : PySem.W.Frag) (CH fI fMT fMR fMA fMS fMX : Addr) : Prop where
  ns : PySem.W.nsIn K mainGlobals "Reader" = some (some (.ref CH))
  pg : PySem.W.plainGet K CH Str.empty = true
  hd : PySem.W.hasDictIn K CH = true
  po : PySem.W.plainOver K CH = true
  sa : PySem.W.findIn K (.ref CH) "__setattr__" = some (some (.builtin "object.__setattr__"))
  makes : PySem.W.makesIn K CH = true
  ini : PySem.W.findIn K (.ref CH) "__init__" = some (some (.ref fI))
  kp : PySem.W.keepIn K (.ref CH) = true
  n0 : PySem.W.findIn K (.ref CH) "parts" = some none
  n1 : PySem.W.findIn K (.ref CH) "end" = some none
  n2 : PySem.W.findIn K (.ref CH) "gaps" = some none
  n3 : PySem.W.findIn K (.ref CH) "blanks" = some none
  n4 : PySem.W.findIn K (.ref CH) "last_gap" = some none
  n5 : PySem.W.findIn K (.ref CH) "takers" = some none
  n6 : PySem.W.findIn K (.ref CH) "first" = some none
  n7 : PySem.W.findIn K (.ref CH) "last" = some none
  mT : PySem.W.findIn K (.ref CH) "takers_of" = some (some (.ref fMT))
  mR : PySem.W.findIn K (.ref CH) "read" = some (some (.ref fMR))
  mA : PySem.W.findIn K (.ref CH) "read_all" = some (some (.ref fMA))
  mS : PySem.W.findIn K (.ref CH) "reads" = some (some (.ref fMS))
  mX : PySem.W.findIn K (.ref CH) "_across" = some (some (.ref fMX))
theorem kbF {K0 : PySem.W.Frag} {x : Str} {st : Stmt} {f : Addr} {fd : FuncData} {a b c : Str} (F : Fun K0 x x st f fd)
    (hk : ∀ (kV doc pm : Value) (an : Option Addr) (cdv ct : Value) (u v z : Value), bindArgs (PySem.W.fnOf x x (defArgs st) (defBody st) (defScope st) .none kV doc pm an cdv ct) ⟨[], [(c, u), (b, v), (a, z)]⟩ = pure [(a, z), (b, v), (c, u)]) :
    KBn K0 fd [a, b, c] 0 [c, b, a] (fun _ ws => [ws.getD 2 .none, ws.getD 1 .none, ws.getD 0 .none]) (fun _ zs => [zs.getD 2 .non, zs.getD 1 .non, zs.getD 0 .non]) := by
  obtain ⟨oc, od, kV, doc, pm, an, cdv, ct, osl, rfl, lk, hcd⟩ := F.ex
  refine ⟨fun s us ws X e1 e2 => ?_, fun {vs us zs ws} r1 r2 => ?_⟩
  · match us, ws, e1, e2 with
    | [], [u, v, z], _, _ => exact .of_eq (hk kV doc pm an cdv ct u v z)
  · have at_ : ∀ j, RelV (zs.getD j .non) (ws.getD j .none) := by
      intro j
      induction r2 generalizing j with
      | nil => rfl
      | cons h _ ih =>
        cases j with
        | zero => exact h
        | succ j => exact ih j
    exact .cons (at_ 2) (.cons (at_ 1) (.cons (at_ 0) .nil))
theorem all_mk {l : PySem.W.OpenLaw} {w : World} {K : PySem.W.Frag} {h : Heap} {mg : Str → Option Value} {fa fW fC fLm fTo fCN fSl fGo fGw fFi fTd fPl fPo fD fEn fSh fLo fBk fPw fWd fVa fMa fWn fRi fL CH fI fMT fMR fMA fMS fMX E1 E2 : Addr} {tk : Tok} (X : K.In h) (G : h.Ns mainGlobals mg) (hfa : mg "law" = some (.ref fa))
    (aW : DefAt K "is_word" sIsWord fW) (aC : DefAt K "check_table" sCheck fC) (aLm : DefAt K "limit" sLimit fLm) (aTo : DefAt K "top_of" sTopOf fTo) (aCN : DefAt K "check_number" sCheckNum fCN) (aSl : DefAt K "spelled" sSpelled fSl) (aGo : DefAt K "groups_of" sGroupsOf fGo) (aGw : DefAt K "_group_words" sGroupWords fGw) (aFi : DefAt K "fits" sFits fFi) (aTd : DefAt K "_tidied" sTidied fTd) (aPl : DefAt K "_places_of" sPlacesOf fPl) (aPo : DefAt K "_law_pool" sPool fPo) (aD : DefAt K "_law_draw" sDraw fD) (aEn : DefAt K "_law_english" sEnglish fEn) (aSh : DefAt K "_law_short" sShort fSh) (aLo : DefAt K "_law_longer" sLonger fLo) (aBk : DefAt K "_law_book" sBook fBk) (aPw : DefAt K "_law_power" sPower fPw) (aWd : DefAt K "_law_words" sWords fWd) (aVa : DefAt K "_law_value" sValue fVa) (aMa : DefAt K "_law_matched" sMatched fMa) (aWn : DefAt K "_law_wanted" sWanted fWn) (aRi : DefAt K "_law_right" sRight fRi) (aL : DefAt K "law" sLaw fL)
    (hT : RTop K CH fI fMT fMR fMA fMS fMX) (mI : MAt K "__init__" "Reader.__init__" (inClass cReader 0) fI) (mT : MAt K "takers_of" "Reader.takers_of" (inClass cReader 1) fMT) (mR : MAt K "read" "Reader.read" (inClass cReader 2) fMR) (mA : MAt K "read_all" "Reader.read_all" (inClass cReader 5) fMA) (mS : MAt K "reads" "Reader.reads" (inClass cReader 6) fMS) (mX : MAt K "_across" "Reader._across" (inClass cReader 7) fMX)
    (t1 : TupAt K "ENGLISH_ONES" 20 E1) (t2 : TupAt K "ENGLISH_TENS" 8 E2) (tL : PySem.W.nsIn K mainGlobals "LONGEST_WORD" = some (some (.int 20 tk)))
    (z1 : PySem.W.nsIn K mainGlobals "range" = some none) (z2 : PySem.W.nsIn K mainGlobals "min" = some none) (z3 : PySem.W.nsIn K mainGlobals "len" = some none) (z4 : PySem.W.nsIn K mainGlobals "repr" = some none) (z5 : PySem.W.nsIn K mainGlobals "abs" = some none) (z6 : PySem.W.nsIn K mainGlobals "int" = some none) (z7 : PySem.W.nsIn K mainGlobals "enumerate" = some none) (z8 : PySem.W.nsIn K mainGlobals "max" = some none) (z9 : PySem.W.nsIn K mainGlobals "sorted" = some none) (z10 : PySem.W.nsIn K mainGlobals "set" = some none) (z11 : PySem.W.nsIn K mainGlobals "list" = some none) (z12 : PySem.W.nsIn K mainGlobals "divmod" = some none) (z13 : PySem.W.nsIn K mainGlobals "reversed" = some none) (z14 : PySem.W.nsIn K mainGlobals "sum" = some none) :
    ∃ fd : FuncData, (∀ (s : Shared) (v : Value), BindsTo s fd ⟨[v], []⟩ [("script", v)]) ∧ ∀ base : Heap, K.In base → base.Ns mainGlobals mg → FnG l.prog w K mg base CX0 7 fa fd ["script"] (spLawO K) := by
  obtain ⟨nW, ⟨_, _, _, _, _, _, _, _, _, lW, ccW⟩, kW⟩ := aW
  obtain ⟨nC, ⟨_, _, _, _, _, _, _, _, _, lC, ccC⟩, kC⟩ := aC
  obtain ⟨nLm, ⟨_, _, _, _, _, _, _, _, _, lLm, ccLm⟩, kLm⟩ := aLm
  obtain ⟨nTo, ⟨_, _, _, _, _, _, _, _, _, lTo, ccTo⟩, kTo⟩ := aTo
  obtain ⟨nCN, ⟨_, _, _, _, _, _, _, _, _, lCN, ccCN⟩, kCN⟩ := aCN
  obtain ⟨nSl, ⟨_, _, _, _, _, _, _, _, _, lSl, ccSl⟩, kSl⟩ := aSl
  obtain ⟨nGo, ⟨_, _, _, _, _, _, _, _, _, lGo, ccGo⟩, kGo⟩ := aGo
  obtain ⟨nGw, ⟨_, _, _, _, _, _, _, _, _, lGw, ccGw⟩, kGw⟩ := aGw
  obtain ⟨nFi, ⟨_, _, _, _, _, _, _, _, _, lFi, ccFi⟩, kFi⟩ := aFi
  obtain ⟨nTd, ⟨_, _, _, _, _, _, _, _, _, lTd, ccTd⟩, kTd⟩ := aTd
  obtain ⟨nPl, ⟨_, _, _, _, _, _, _, _, _, lPl, ccPl⟩, kPl⟩ := aPl
  obtain ⟨nPo, ⟨_, _, _, _, _, _, _, _, _, lPo, ccPo⟩, kPo⟩ := aPo
  obtain ⟨nD, ⟨_, _, _, _, _, _, _, _, _, lD, ccD⟩, kD⟩ := aD
  obtain ⟨nEn, ⟨_, _, _, _, _, _, _, _, _, lEn, ccEn⟩, kEn⟩ := aEn
  obtain ⟨nSh, ⟨_, _, _, _, _, _, _, _, _, lSh, ccSh⟩, kSh⟩ := aSh
  obtain ⟨nLo, ⟨_, _, _, _, _, _, _, _, _, lLo, ccLo⟩, kLo⟩ := aLo
  obtain ⟨nBk, ⟨_, _, _, _, _, _, _, _, _, lBk, ccBk⟩, kBk⟩ := aBk
  obtain ⟨nPw, ⟨_, _, _, _, _, _, _, _, _, lPw, ccPw⟩, kPw⟩ := aPw
  obtain ⟨nWd, ⟨_, _, _, _, _, _, _, _, _, lWd, ccWd⟩, kWd⟩ := aWd
  obtain ⟨nVa, ⟨_, _, _, _, _, _, _, _, _, lVa, ccVa⟩, kVa⟩ := aVa
  obtain ⟨nMa, ⟨_, _, _, _, _, _, _, _, _, lMa, ccMa⟩, kMa⟩ := aMa
  obtain ⟨nWn, ⟨_, _, _, _, _, _, _, _, _, lWn, ccWn⟩, kWn⟩ := aWn
  obtain ⟨nRi, ⟨_, _, _, _, _, _, _, _, _, lRi, ccRi⟩, kRi⟩ := aRi
  obtain ⟨nL, ⟨_, _, kV, doc, pm, an, cdv, ct, _, lL, ccL⟩, kL⟩ := aL
  obtain ⟨⟨_, _, _, _, _, _, _, _, _, lmI, cmI⟩, kmI, isFmI⟩ := mI
  obtain ⟨⟨_, _, _, _, _, _, _, _, _, lmT, cmT⟩, kmT, isFmT⟩ := mT
  obtain ⟨⟨_, _, _, _, _, _, _, _, _, lmR, cmR⟩, kmR, isFmR⟩ := mR
  obtain ⟨⟨_, _, _, _, _, _, _, _, _, lmA, cmA⟩, kmA, isFmA⟩ := mA
  obtain ⟨⟨_, _, _, _, _, _, _, _, _, lmS, cmS⟩, kmS, isFmS⟩ := mS
  obtain ⟨⟨_, _, _, _, _, _, _, _, _, lmX, cmX⟩, kmX, isFmX⟩ := mX
  cases hfa.symm.trans (PySem.W.mg_of X G nL)
  have FW := fun_mk (st := sIsWord) lW ccW kW
  have FC := fun_mk (st := sCheck) lC ccC kC
  have FLm := fun_mk (st := sLimit) lLm ccLm kLm
  have FTo := fun_mk (st := sTopOf) lTo ccTo kTo
  have FCN := fun_mk (st := sCheckNum) lCN ccCN kCN
  have FSl := fun_mk (st := sSpelled) lSl ccSl kSl
  have FGo := fun_mk (st := sGroupsOf) lGo ccGo kGo
  have FGw := fun_mk (st := sGroupWords) lGw ccGw kGw
  have FFi := fun_mk (st := sFits) lFi ccFi kFi
  have FTd := fun_mk (st := sTidied) lTd ccTd kTd
  have FPl := fun_mk (st := sPlacesOf) lPl ccPl kPl
  have FPo := fun_mk (st := sPool) lPo ccPo kPo
  have FD := fun_mk (st := sDraw) lD ccD kD
  have FEn := fun_mk (st := sEnglish) lEn ccEn kEn
  have FSh := fun_mk (st := sShort) lSh ccSh kSh
  have FLo := fun_mk (st := sLonger) lLo ccLo kLo
  have FBk := fun_mk (st := sBook) lBk ccBk kBk
  have FPw := fun_mk (st := sPower) lPw ccPw kPw
  have FWd := fun_mk (st := sWords) lWd ccWd kWd
  have FVa := fun_mk (st := sValue) lVa ccVa kVa
  have FMa := fun_mk (st := sMatched) lMa ccMa kMa
  have FWn := fun_mk (st := sWanted) lWn ccWn kWn
  have FRi := fun_mk (st := sRight) lRi ccRi kRi
  have FL := fun_mk (st := sLaw) lL ccL kL
  have FmI := fun_mk (x := "__init__") (qual := "Reader.__init__") (st := inClass cReader 0) lmI cmI kmI
  have FmT := fun_mk (x := "takers_of") (qual := "Reader.takers_of") (st := inClass cReader 1) lmT cmT kmT
  have FmR := fun_mk (x := "read") (qual := "Reader.read") (st := inClass cReader 2) lmR cmR kmR
  have FmA := fun_mk (x := "read_all") (qual := "Reader.read_all") (st := inClass cReader 5) lmA cmA kmA
  have FmS := fun_mk (x := "reads") (qual := "Reader.reads") (st := inClass cReader 6) lmS cmS kmS
  have FmX := fun_mk (x := "_across") (qual := "Reader._across") (st := inClass cReader 7) lmX cmX kmX
  have no : ∀ {x : Str}, PySem.W.nsIn K mainGlobals x = some none → mg x = none := fun z => PySem.W.mg_none_of X G z
  have at_ : ∀ {x : Str} {v : Value}, PySem.W.nsIn K mainGlobals x = some (some v) → mg x = some v := fun z => PySem.W.mg_of X G z
  have TP : TxtP K mg E1 E2 := ⟨no z3, ⟨tk, at_ tL⟩, at_ t1.1, at_ t2.1, t1.seq (by decide), t2.seq (by decide)⟩
  refine ⟨PySem.W.fnOf "law" "law" (defArgs sLaw) (defBody sLaw) (defScope sLaw) .none kV doc pm an cdv ct, fun s v => .of_eq rfl, fun base _ _ => ?_⟩
  have DW : Def1 l.prog w K mg base "is_word" 1 fW _ ["text"] spIsWord := ⟨ok_isWord FW TP, at_ nW, kW, (FW.binds (ps := ["text"]) fun _ _ _ _ _ _ us hl => match us, hl with | [_], _ => rfl)⟩
  have DC : Def1 l.prog w K mg base "check_table" 2 fC _ ["table"] spCheck := ⟨ok_check FC TP DW.ok DW.g DW.k DW.b, at_ nC, kC, (FC.binds (ps := ["table"]) fun _ _ _ _ _ _ us hl => match us, hl with | [_], _ => rfl)⟩
  have DTo : Def1 l.prog w K mg base "top_of" 1 fTo _ ["table"] spTopOf := ⟨ok_topOf FTo, at_ nTo, kTo, (FTo.binds (ps := ["table"]) fun _ _ _ _ _ _ us hl => match us, hl with | [_], _ => rfl)⟩
  have DLm : Def1 l.prog w K mg base "limit" 3 fLm _ ["table"] spLimit0 := ⟨ok_limit0 FLm DC DTo, at_ nLm, kLm, (FLm.binds (ps := ["table"]) fun _ _ _ _ _ _ us hl => match us, hl with | [_], _ => rfl)⟩
  have DCN : Def1 l.prog w K mg base "check_number" 4 fCN _ ["table", "number"] spCN0 := ⟨ok_checkNum0 FCN DLm, at_ nCN, kCN, (FCN.binds (ps := ["table", "number"]) fun _ _ _ _ _ _ us hl => match us, hl with | [_, _], _ => rfl)⟩
  have DGo : Def1 l.prog w K mg base "groups_of" 1 fGo _ ["number"] spGroups := ⟨ok_groups FGo (no z12), at_ nGo, kGo, (FGo.binds (ps := ["number"]) fun _ _ _ _ _ _ us hl => match us, hl with | [_], _ => rfl)⟩
  have DGw : Def1 l.prog w K mg base "_group_words" 1 fGw _ ["table", "group"] spGW := ⟨ok_groupWords FGw (no z12), at_ nGw, kGw, (FGw.binds (ps := ["table", "group"]) fun _ _ _ _ _ _ us hl => match us, hl with | [_, _], _ => rfl)⟩
  have DSl : Def1 l.prog w K mg base "spelled" 2 fSl _ ["table", "number"] spSpelled := ⟨ok_spelled FSl DGo DGw (no z13) (no z1) (no z3), at_ nSl, kSl, (FSl.binds (ps := ["table", "number"]) fun _ _ _ _ _ _ us hl => match us, hl with | [_, _], _ => rfl)⟩
  have DTd : Def1 l.prog w K mg base "_tidied" 1 fTd _ ["pattern"] (spTidied K) := ⟨ok_tidied FTd, at_ nTd, kTd, (FTd.binds (ps := ["pattern"]) fun _ _ _ _ _ _ us hl => match us, hl with | [_], _ => rfl)⟩
  have DPl : Def1 l.prog w K mg base "_places_of" 1 fPl _ ["item", "parts"] spPlaces := ⟨ok_places FPl (no z7) (no z14), at_ nPl, kPl, (FPl.binds (ps := ["item", "parts"]) fun _ _ _ _ _ _ us hl => match us, hl with | [_, _], _ => rfl)⟩
  have RC : RdC K CH := ⟨⟨hT.pg, hT.hd, hT.po, hT.sa⟩, hT.n0, hT.n1, hT.n2, hT.n3, hT.n4, hT.n5, hT.n6, hT.n7⟩
  have MX : Meth K CH "_across" fMX := ⟨hT.mX, isFmX, kmX⟩
  have MT : Meth K CH "takers_of" fMT := ⟨hT.mT, isFmT, kmT⟩
  have MR : Meth K CH "read" fMR := ⟨hT.mR, isFmR, kmR⟩
  have MA : Meth K CH "read_all" fMA := ⟨hT.mA, isFmA, kmA⟩
  have MS : Meth K CH "reads" fMS := ⟨hT.mS, isFmS, kmS⟩
  have PX := ok_across (P := l.prog) (w := w) (mg := mg) (base := base) FmX RC
  have PT := ok_takersOf (P := l.prog) (w := w) (mg := mg) (base := base) FmT RC
  have PR := ok_read FmR RC MX PX (FmX.binds (ps := ["self", "places"]) fun _ _ _ _ _ _ us hl => match us, hl with | [_, _], _ => rfl)
  have PA := ok_readAll FmA RC MR PR (FmR.binds (ps := ["self", "places", "takers"]) fun _ _ _ _ _ _ us hl => match us, hl with | [_, _, _], _ => rfl) MT PT (FmT.binds (ps := ["self", "word"]) fun _ _ _ _ _ _ us hl => match us, hl with | [_, _], _ => rfl)
  have PS := ok_reads FmS RC MA PA (FmA.binds (ps := ["self", "places", "words"]) fun _ _ _ _ _ _ us hl => match us, hl with | [_, _, _], _ => rfl)
  have PI := ok_rInit FmI RC DTd DPl MX PX (FmX.binds (ps := ["self", "places"]) fun _ _ _ _ _ _ us hl => match us, hl with | [_, _], _ => rfl) (no z3) (no z7)
  have MK : Mk K CH fI := ⟨hT.makes, hT.ini, isFmI, hT.kp⟩
  have DFi : Def1 l.prog w K mg base "fits" 5 fFi _ ["table", "pattern", "number"] (spFits K) := ⟨ok_fits FFi RC DCN DSl MK (at_ hT.ns) PI (FmI.binds (ps := ["self", "pattern"]) fun _ _ _ _ _ _ us hl => match us, hl with | [_, _], _ => rfl) MS PS (FmS.binds (ps := ["self", "words"]) fun _ _ _ _ _ _ us hl => match us, hl with | [_, _], _ => rfl), at_ nFi, kFi, (FFi.binds (ps := ["table", "pattern", "number"]) fun _ _ _ _ _ _ us hl => match us, hl with | [_, _, _], _ => rfl)⟩
  have kw := kbF (x := "fits") (st := sFits) (a := "table") (b := "pattern") (c := "number") FFi fun _ _ _ _ _ _ _ _ _ => rfl
  have DPo : Def1 l.prog w K mg base "_law_pool" 1 fPo _ ["script", "at"] (spPool K) := ⟨ok_pool FPo (no z3) (no z8) (no z5), at_ nPo, kPo, (FPo.binds (ps := ["script", "at"]) fun _ _ _ _ _ _ us hl => match us, hl with | [_, _], _ => rfl)⟩
  have DD : Def1 l.prog w K mg base "_law_draw" 1 fD _ ["pool", "many"] spDrawD := ⟨ok_drawD FD, at_ nD, kD, (FD.binds (ps := ["pool", "many"]) fun _ _ _ _ _ _ us hl => match us, hl with | [_, _], _ => rfl)⟩
  have DEn : Def1 l.prog w K mg base "_law_english" 1 fEn _ ["scales_here"] spEnglishD := ⟨ok_englishD FEn, at_ nEn, kEn, (FEn.binds (ps := ["scales_here"]) fun _ _ _ _ _ _ us hl => match us, hl with | [_], _ => rfl)⟩
  have DEw : Def1 l.prog w K mg base "_law_english" 1 fEn _ ["scales_here"] spEnglishW := ⟨ok_englishW FEn, at_ nEn, kEn, (FEn.binds (ps := ["scales_here"]) fun _ _ _ _ _ _ us hl => match us, hl with | [_], _ => rfl)⟩
  have DSh : Def1 l.prog w K mg base "_law_short" 1 fSh _ ["signs", "most"] spShort := ⟨ok_short FSh (no z1), at_ nSh, kSh, (FSh.binds (ps := ["signs", "most"]) fun _ _ _ _ _ _ us hl => match us, hl with | [_, _], _ => rfl)⟩
  have DLo : Def1 l.prog w K mg base "_law_longer" 2 fLo _ ["pool", "word"] spLonger := ⟨ok_longer FLo DD, at_ nLo, kLo, (FLo.binds (ps := ["pool", "word"]) fun _ _ _ _ _ _ us hl => match us, hl with | [_, _], _ => rfl)⟩
  have DBk : Def1 l.prog w K mg base "_law_book" 3 fBk _ ["pool", "scales_here"] spBook := ⟨ok_book FBk DD DEn DSh DLo (no z9) (no z10) (no z1) (no z3), at_ nBk, kBk, (FBk.binds (ps := ["pool", "scales_here"]) fun _ _ _ _ _ _ us hl => match us, hl with | [_, _], _ => rfl)⟩
  have DPw : Def1 l.prog w K mg base "_law_power" 1 fPw _ ["many"] spPower := ⟨ok_power FPw (no z1), at_ nPw, kPw, (FPw.binds (ps := ["many"]) fun _ _ _ _ _ _ us hl => match us, hl with | [_], _ => rfl)⟩
  have DWd : Def1 l.prog w K mg base "_law_words" 2 fWd _ ["book", "value"] spWordsD := ⟨ok_wordsD FWd DPw (no z3) (no z6), at_ nWd, kWd, (FWd.binds (ps := ["book", "value"]) fun _ _ _ _ _ _ us hl => match us, hl with | [_, _], _ => rfl)⟩
  have DVa : Def1 l.prog w K mg base "_law_value" 2 fVa _ ["pool", "book"] spValueD := ⟨ok_valueD FVa DPw DD (no z3) (no z1) (no z2) (no z8), at_ nVa, kVa, (FVa.binds (ps := ["pool", "book"]) fun _ _ _ _ _ _ us hl => match us, hl with | [_, _], _ => rfl)⟩
  have DMa : Def1 l.prog w K mg base "_law_matched" 1 fMa _ ["some", "wanted"] (spMatched K) := ⟨ok_matched FMa (no z3) (no z11) (no z1) (no z9) (no z10), at_ nMa, kMa, (FMa.binds (ps := ["some", "wanted"]) fun _ _ _ _ _ _ us hl => match us, hl with | [_, _], _ => rfl)⟩
  have DWn : Def1 l.prog w K mg base "_law_wanted" 2 fWn _ ["pool", "book", "some"] spWanted := ⟨ok_wanted FWn DD (no z3) (no z6) (no z1), at_ nWn, kWn, (FWn.binds (ps := ["pool", "book", "some"]) fun _ _ _ _ _ _ us hl => match us, hl with | [_, _, _], _ => rfl)⟩
  have DRi : DefG l.prog w K mg base "_law_right" 6 fRi _ ["pool", "book"] spRightP := ⟨ok_rightP FRi DVa DWd DMa DFi kw DWn (no z4), at_ nRi, kRi, (FRi.binds (ps := ["pool", "book"]) fun _ _ _ _ _ _ us hl => match us, hl with | [_, _], _ => rfl)⟩
  exact ok_lawP FL DPo DD DBk DRi DEw DFi (no z3) (no z1) (no z8) (no z2)
theorem walk {l : PySem.W.OpenLaw} {q : Program} {loose : List Str} {XP : (Str → Option Value) → Heap → Prop} {YP : World → Heap → Prop} {d : DefRec} {K : Params → PySem.W.Frag} (hn : l.most = some 63) (hdf : d.params.defaults = [])
    (hY : ∀ (w : World) (h : Heap), YP w h → (K w.params).In h)
    (F : ∀ (w : World) (mg : Str → Option Value) (fa : Addr) (h : Heap), (K w.params).In h → h.Ns mainGlobals mg → mg d.name = some (.ref fa) →
      ∃ fd : FuncData, (∀ (s : Shared) (u : Value), BindsTo s fd ⟨[u], []⟩ [("script", u)]) ∧ ∀ base : Heap, (K w.params).In base → base.Ns mainGlobals mg → FnG l.prog w (K w.params) mg base CX0 7 fa fd ["script"] (spLawO (K w.params))) :
    PySem.W.WalkO q loose XP YP l.row.toRowW d [] (fun f vs => PySem.call f vs) :=
  walkG (n := 63) (k := 7) (x := "script") (CX := fun _ => CX0) (sp := fun w => spLawO (K w.params)) hn (by decide) hdf ⟨rfl, by decide, by decide⟩ hY F (fun _ _ a ns hl _ hS => ⟨a, ns, rfl, hS, hl, fun _ => rfl⟩) fun _ _ _ _ _ z => z
end LB
set_option Elab.async false
open PySem PySem.W PyProof.Rows
set_option maxRecDepth 100000 in
set_option maxHeartbeats 0 in
theorem PySem.Challenge.cw_wordorder_k34_patterns_matched_holds : PySem.Challenge.rw_wordorder_k34_patterns_matched.Holds := by
  w_on; o_law; k_head; (case hw => w_witness2)
  k_fill
  refine LB.walk (l := PySem.Challenge.rw_wordorder_k34_patterns_matched) rfl rfl (fun w h Y => PySem.W.kIn_of Y) ?F
  case F =>
    intro w mg fa h KX G hmg
    refine' LB.all_mk KX G hmg ?aW ?aC ?aLm ?aTo ?aCN ?aSl ?aGo ?aGw ?aFi ?aTd ?aPl ?aPo ?aD ?aEn ?aSh ?aLo ?aBk ?aPw ?aWd ?aVa ?aMa ?aWn ?aRi ?aL ?hT ?mI ?mT ?mR ?mA ?mS ?mX ?t1 ?t2 ?tL ?z1 ?z2 ?z3 ?z4 ?z5 ?z6 ?z7 ?z8 ?z9 ?z10 ?z11 ?z12 ?z13 ?z14
    case aW => refine' Wk.def_at ?a ?l ?c ?k; (case a => k_is); (case l => k_is); (case c => k_is); (case k => k_is)
    case aC => refine' Wk.def_at ?a ?l ?c ?k; (case a => k_is); (case l => k_is); (case c => k_is); (case k => k_is)
    case aLm => refine' Wk.def_at ?a ?l ?c ?k; (case a => k_is); (case l => k_is); (case c => k_is); (case k => k_is)
    case aTo => refine' Wk.def_at ?a ?l ?c ?k; (case a => k_is); (case l => k_is); (case c => k_is); (case k => k_is)
    case aCN => refine' Wk.def_at ?a ?l ?c ?k; (case a => k_is); (case l => k_is); (case c => k_is); (case k => k_is)
    case aSl => refine' Wk.def_at ?a ?l ?c ?k; (case a => k_is); (case l => k_is); (case c => k_is); (case k => k_is)
    case aGo => refine' Wk.def_at ?a ?l ?c ?k; (case a => k_is); (case l => k_is); (case c => k_is); (case k => k_is)
    case aGw => refine' Wk.def_at ?a ?l ?c ?k; (case a => k_is); (case l => k_is); (case c => k_is); (case k => k_is)
    case aFi => refine' Wk.def_at ?a ?l ?c ?k; (case a => k_is); (case l => k_is); (case c => k_is); (case k => k_is)
    case aTd => refine' Wk.def_at ?a ?l ?c ?k; (case a => k_is); (case l => k_is); (case c => k_is); (case k => k_is)
    case aPl => refine' Wk.def_at ?a ?l ?c ?k; (case a => k_is); (case l => k_is); (case c => k_is); (case k => k_is)
    case aPo => refine' Wk.def_at ?a ?l ?c ?k; (case a => k_is); (case l => k_is); (case c => k_is); (case k => k_is)
    case aD => refine' Wk.def_at ?a ?l ?c ?k; (case a => k_is); (case l => k_is); (case c => k_is); (case k => k_is)
    case aEn => refine' Wk.def_at ?a ?l ?c ?k; (case a => k_is); (case l => k_is); (case c => k_is); (case k => k_is)
    case aSh => refine' Wk.def_at ?a ?l ?c ?k; (case a => k_is); (case l => k_is); (case c => k_is); (case k => k_is)
    case aLo => refine' Wk.def_at ?a ?l ?c ?k; (case a => k_is); (case l => k_is); (case c => k_is); (case k => k_is)
    case aBk => refine' Wk.def_at ?a ?l ?c ?k; (case a => k_is); (case l => k_is); (case c => k_is); (case k => k_is)
    case aPw => refine' Wk.def_at ?a ?l ?c ?k; (case a => k_is); (case l => k_is); (case c => k_is); (case k => k_is)
    case aWd => refine' Wk.def_at ?a ?l ?c ?k; (case a => k_is); (case l => k_is); (case c => k_is); (case k => k_is)
    case aVa => refine' Wk.def_at ?a ?l ?c ?k; (case a => k_is); (case l => k_is); (case c => k_is); (case k => k_is)
    case aMa => refine' Wk.def_at ?a ?l ?c ?k; (case a => k_is); (case l => k_is); (case c => k_is); (case k => k_is)
    case aWn => refine' Wk.def_at ?a ?l ?c ?k; (case a => k_is); (case l => k_is); (case c => k_is); (case k => k_is)
    case aRi => refine' Wk.def_at ?a ?l ?c ?k; (case a => k_is); (case l => k_is); (case c => k_is); (case k => k_is)
    case aL => refine' Wk.def_at ?a ?l ?c ?k; (case a => k_is); (case l => k_is); (case c => k_is); (case k => k_is)
    case hT =>
      refine' ⟨?h_ns, ?h_pg, ?h_hd, ?h_po, ?h_sa, ?h_makes, ?h_ini, ?h_kp, ?h_n0, ?h_n1, ?h_n2, ?h_n3, ?h_n4, ?h_n5, ?h_n6, ?h_n7, ?h_mT, ?h_mR, ?h_mA, ?h_mS, ?h_mX⟩
      case h_ns => k_is
      case h_pg => k_is
      case h_hd => k_is
      case h_po => k_is
      case h_sa => k_is
      case h_makes => k_is
      case h_ini => k_is
      case h_kp => k_is
      case h_n0 => k_is
      case h_n1 => k_is
      case h_n2 => k_is
      case h_n3 => k_is
      case h_n4 => k_is
      case h_n5 => k_is
      case h_n6 => k_is
      case h_n7 => k_is
      case h_mT => k_is
      case h_mR => k_is
      case h_mA => k_is
      case h_mS => k_is
      case h_mX => k_is
    case mI => refine' LB.m_at ?l ?c ?k ?i; (case l => k_is); (case c => k_is); (case k => k_is); (case i => k_is)
    case mT => refine' LB.m_at ?l ?c ?k ?i; (case l => k_is); (case c => k_is); (case k => k_is); (case i => k_is)
    case mR => refine' LB.m_at ?l ?c ?k ?i; (case l => k_is); (case c => k_is); (case k => k_is); (case i => k_is)
    case mA => refine' LB.m_at ?l ?c ?k ?i; (case l => k_is); (case c => k_is); (case k => k_is); (case i => k_is)
    case mS => refine' LB.m_at ?l ?c ?k ?i; (case l => k_is); (case c => k_is); (case k => k_is); (case i => k_is)
    case mX => refine' LB.m_at ?l ?c ?k ?i; (case l => k_is); (case c => k_is); (case k => k_is); (case i => k_is)
    case t1 => refine' LB.tup_at ?a ?l ?c ?d ?s ?f; (case a => k_is); (case l => k_is); (case c => rfl); (case d => rfl); (case s => rfl); (case f => rfl)
    case t2 => refine' LB.tup_at ?a ?l ?c ?d ?s ?f; (case a => k_is); (case l => k_is); (case c => rfl); (case d => rfl); (case s => rfl); (case f => rfl)
    case tL => k_is
    case z1 => k_is
    case z2 => k_is
    case z3 => k_is
    case z4 => k_is
    case z5 => k_is
    case z6 => k_is
    case z7 => k_is
    case z8 => k_is
    case z9 => k_is
    case z10 => k_is
    case z11 => k_is
    case z12 => k_is
    case z13 => k_is
    case z14 => k_is
