import PyProof.Rows.All
import Wide.All
import OpenK.AllK
import Wide.FinOn
import HandS.ForMost
import HandS.IsInst
import HandS.Evl
import HandS.Walk
import KE.GoesEnum
import HandS.TupAny
import HandS.Text
import HandS.Style
import HandS.TupMul
import HandS.Conv
import HandS.FStr
import HandS.More
import HandS.ExcInit
import HandS.ExcField
import HandS.ExcValue
import KE.KExcIs
import HandS.WordsExc
import HandS.Wide
import HandS.Lambda
import KE.KStrOpen
import KE.KNestM
import HandS.EndTab
import PySem.Challenge.RW_errorspans_k52_sources_that_are_none
set_option Elab.async false
set_option linter.all false
set_option maxRecDepth 100000
set_option maxHeartbeats 2000000
namespace Es
open PySem PySem.Spec PyProof.Rows L2 Evl
section
variable {X : Cx}
/-- repr of a truth value -/
theorem cr_reprB : CallR X (.builtin "repr") (fun xs H Q => ∃ b : Bool, xs = [.bl b] ∧ Q (.str (if b then "True" else "False")) H) := by
  intro pins s σ H xs us Q I r h
  obtain ⟨b, rfl, q⟩ := h
  obtain ⟨u, rfl, ru⟩ := vals1 r
  obtain rfl : u = Value.bool b := ru
  exact PySem.P.repr_of_bool ⟨.str _, H, I.tok _, ⟨_, rfl⟩, q⟩
/-- repr of data that lies at an address -/
theorem cr_reprD (hg : X.A.guards = some []) (hu : X.A.units + 64 < cLine) : CallR X (.builtin "repr")
    (fun xs H Q => ∃ (a : Addr) (d : PyData), xs = [.ref a] ∧ Dp X.K H (.ref a) d ∧ d.showable = true ∧ d.hasDict = false ∧ d.depth ≤ 60 ∧ d.shown.length ≤ sizeLine ∧ Q (.str d.shown) H) := by
  intro pins s σ H xs us Q I r h
  obtain ⟨a, d, rfl, hd, hs, hn, hdp, hz, q⟩ := h
  obtain ⟨u, rfl, ru⟩ := vals1 r
  obtain rfl : u = Value.ref a := ru
  obtain ⟨as, rd⟩ := Dp.reads I d _ _ hd rfl
  refine repr_of_reads' rd hs (fun z => ?_) hg (by omega) (fun _ _ e => e) (fun h' u tk hk => ?_) hz
  · rw [hn] at z; cases z
  · exact ⟨.str d.shown, H, I.kept (t' := tk) hk, ⟨_, rfl⟩, q⟩
/-- powers of great numbers -/
def CPowW (i j : Int) : Prop := 0 ≤ j ∧ (Builtin.Int.intBits i : Int) * j ≤ 2 ^ 27
theorem op_powW : OpR X (binaryOp .Pow) (rI CPowW fun i j => .int (i ^ j.toNat)) := opI fun _ _ _ _ _ _ _ hc q => pow_int hc.1 hc.2 q
end
/-- a def's promise, given where no repr is under way -/
structure GnOk (P : Program) (w : World) (K : PySem.W.Frag) (mg : Str → Option Value) (bs : Heap) (k : Nat) (f : Addr) (fd : FuncData) (ps : List Str) (sp : Sp) : Prop where
  len : ∀ vs H Q E, sp vs H Q E → vs.length = ps.length
  run : ∀ (A : Around) (out : List Env) (s : Shared) (H : Hp) (ar : Args) (us : List Value) (vs : List V) (Q : VK) (E : XK), A.guards = some [] → Room k A →
    Env0 P w K mg bs A out s H → BindsTo s fd ar (ps.zip us) → Vals vs us → sp vs H Q E → codeAny (model P w) A (.call (.ref f) ar) (CR CX0 out P w H s Q E) s
section
variable {P : Program} {w : World} {K : PySem.W.Frag} {mg : Str → Option Value} {bs : Heap} {k : Nat} {f : Addr} {fd : FuncData} {ps : List Str} {sp : Sp}
theorem GnOk.ofF (F : FnOk P w K mg bs CX0 k f fd ps sp) : GnOk P w K mg bs k f fd ps sp := ⟨F.len, fun A out s H ar us vs Q E _ => F.run A out s H ar us vs Q E⟩
theorem GnOk.mono {j : Nat} (F : GnOk P w K mg bs j f fd ps sp) (h : j ≤ k) : GnOk P w K mg bs k f fd ps sp := ⟨F.len, fun A out s H ar us vs Q E g hr => F.run A out s H ar us vs Q E g (hr.mono h)⟩
theorem gn_of {x qual : Str} {st : Stmt} {N : List Str} (F : Fun K x qual st f fd) (S : FnScope N ps (defScope st)) (len : ∀ vs H Q E, sp vs H Q E → vs.length = ps.length)
    (hb : ∀ (cd : Value) (A : Around) (out : List Env) (s : Shared) (H : Hp) (vs : List V) (Q : VK) (E : XK), A.guards = some [] → Room k (A.deeper (envOfC qual (defScope st) s.heap.objs.size f cd)) →
      sp vs H Q E → ∃ t, PSs (cxOf CX0 P w K mg bs N qual (defScope st) f cd A out s H E).nox (defBody st) t ∧ t { nx := fun _ H' => Q .non H', rt := Q } (start N vs) H) :
    GnOk P w K mg bs (k + 1) f fd ps sp := by
  obtain ⟨oc, od, kV, dc, pm, an, cd, ct, sl, rfl, lk, hcd⟩ := F.ex
  refine ⟨len, ?_⟩
  intro A out s H ar us vs Q E g hr e0 hbd rv hs
  have up := fun b o (e : bs.get? b = some o) => (e0.bs b o e).1
  have kin := e0.mod.kin.keeps up
  have ln := len _ _ _ _ hs
  obtain ⟨t, ht, hq⟩ := hb cd A out s H vs Q E g (hr.deeper _) hs
  have hk : ∀ y ∈ ps.zip us, (defScope st).names.lookup y.1 = some .local ∨ ((defScope st).names.lookup y.1 = some .cell ∧ ((cellsFrom (s.heap.objs.size + 1) (defScope st).names []).lookup y.1).isSome = true) := by
    intro ⟨n, v⟩ hy
    rcases S.par n (List.of_mem_zip hy).1 with q | q
    · exact Or.inl q
    · exact Or.inr ⟨q, PySem.W.cellsFrom_some _ _ _ (.inl q)⟩
  refine codeAny_call_function hr.depth (kin _ _ lk) rfl S.co S.gen rfl (PySem.W.codeRec_of kin hcd) (hbd _ _ _ _ ?_)
  refine wpAny_newFunctionEnv_cells S.kind hk ?_
  intro en he s1 x
  subst he
  refine ⟨(e0.mod.nolimit.keeps up).keeps x.toInCall.keep, codeAny_func ?_⟩
  have I := inv_start (CX := CX0) (P := P) (w := w) (K := K) (mg := mg) (base := bs) (E := E) S hr.hd e0 ln rv x
  refine wpAny_mono (ht.nox.run [] s1 (start N vs) H _ I hq) ?_ (fun e s' hs => hs)
  intro fl s' z
  have fin : ∀ {σ' : L2.St} {H' : Hp} {v : V} {u : Value}, Inv (cxOf CX0 P w K mg bs N qual (defScope st) f cd A out s H E) [] σ' H' s' → RelV v u → Q v H' → CE out P w H s Q u s' :=
    fun J r q => ⟨_, _, J.os, J.bare, J.base, J.hok, r, q⟩
  match fl, z with
  | .ret u, ⟨v, σ', H', J, r, q⟩ => exact fin J r q
  | .next, ⟨σ', H', J, q⟩ => exact fin (v := V.non) (u := Value.none) J rfl q
  | .brk, ⟨_, _, _, q⟩ => exact q.elim
  | .cont, ⟨_, _, _, q⟩ => exact q.elim
end
section
variable {X : Cx} {k : Nat} {f : Addr} {fd : FuncData} {ps ks : List Str} {sp : Sp} {x : Str} {p pos : Pos} {e : Expr} {es : List Expr} {kws : List Keyword} {t tk : TA}
theorem run_gn {pins : List (Addr × Obj)} {σ : L2.St} {H : Hp} {s : Shared} {Q : VK} {us : List Value} {vs : List V} (F : GnOk X.prog X.w X.K X.mg X.base k f fd ps sp) (g : X.A.guards = some []) (hr : Room k X.A)
    (hb : Binds X.K fd ps []) (I : Inv X pins σ H s) (r : Vals vs us) (h : sp vs H Q E0) : wpAny (model X.prog X.w) X.A (call (.ref f) us) (EP X pins σ Q) X.xe s := by
  have ln := F.len _ _ _ _ h
  have hb' := hb s us I.kIn (by rw [List.append_nil, ← r.length]; exact ln)
  rw [List.append_nil] at hb'
  refine wpAny_call (codeAny_mono (F.run X.A X.stack s H ⟨us, []⟩ us vs Q E0 g hr I.env0 hb' r h) ?_)
  intro rs s' z
  match rs, z with
  | .ok (.ret u), z => exact I.after z
def tCallG (sp : Sp) (t : TA) : TE := fun σ H Q => t σ H fun vs H1 => sp vs H1 Q E0
/-- f(e, ..), f one that may ask for a repr -/
theorem pe_callG (F : GnOk X.prog X.w X.K X.mg X.base k f fd ps sp) (g : X.A.guards = some []) (hr : Room k X.A) (hg : Gl X x) (hm : X.mg x = some (.ref f)) (hk : PySem.W.keepIn X.K (.ref f) = true)
    (hb : Binds X.K fd ps []) (ha : PA X (e :: es) t) (hdb : (x == ("__debug__" : Str)) = false := by decide)
    (he : starEach (e :: es) X.env = (false, eval e X.env) :: starEach es X.env := by rfl) (hpl : (backTo pos (starEach es X.env)).any (·.1) = false := by rfl) :
    PE X (.Call (.Name x p) (e :: es) [] pos) (tCallG sp t) := by
  refine ⟨?_⟩
  intro pins s σ H Q I h
  refine wpAny_Call_Name_kw (ld_glob I hg hm ?_ hdb)
  refine PySem.W.callWith_K (h₀ := X.base) I.ok.mod.kin hk (thn (ha.run pos pins s σ H _ I h) ?_) he hpl
  rintro us s1 ⟨vs, H1, I1, r, q⟩
  exact ⟨I1.kIn, run_gn F g hr hb I1 r q⟩
/-- f(k = v, ..): keywords alone -/
theorem pe_callK0 {gg : List Value → List Value → List Value} {gV : List V → List V → List V} (F : FnOk X.prog X.w X.K X.mg X.base CX0 k f fd ps sp) (hr : Room k X.A) (hg : Gl X x) (hm : X.mg x = some (.ref f)) (hk : PySem.W.keepIn X.K (.ref f) = true)
    (hb : KBinds X.K fd ps ks gg gV) (hkw : PK X kws tk) (hall : (backToKw pos (keywordEach kws X.env)).all (·.1.isSome) = true := by rfl) (hks : (backToKw pos (keywordEach kws X.env)).filterMap (·.1) = ks := by rfl)
    (hdb : (x == ("__debug__" : Str)) = false := by decide) (hpl : ((backTo pos (starEach [] X.env)).any (·.1) || (backToKw pos (keywordEach kws X.env)).any (·.1.isNone)) = false := by rfl) :
    PE X (.Call (.Name x p) [] kws pos) (fun σ H Q => tk σ H fun zs H1 => sp (gV [] zs) H1 Q E0) := by
  refine ⟨?_⟩
  intro pins s σ H Q I h
  refine wpAny_Call_Name_kw (ld_glob I hg hm ?_ hdb)
  refine PySem.W.callWith_KW0 (h₀ := X.base) I.ok.mod.kin hk hall (thn (hkw.run pos pins s σ H _ I h) ?_) hpl
  rintro ws s2 ⟨zs, H2, I2, rz, q2⟩
  refine ⟨I2.kIn, ?_⟩
  rw [hks]
  exact run_fnk F hr hb pass0 I2 .nil rz q2
end
/-! the law's own call -/
section
variable {P : Program} {w : World} {K : PySem.W.Frag} {mg mb : Str → Option Value} {k : Nat} {fa a : Addr} {fd : FuncData} {x : Str} {sp : Sp} {s1 : Shared} {vs : List Value} {ns : List Int}
def LawEnd (s1 : Shared) : Result → Shared → Prop := fun r s' => r = .ok (.ret (.bool true)) ∧ OldK s1.heap s'.heap ∧ s'.os = s1.os ∧ AllBare s'.gens
theorem law_core (KX : K.In s1.heap) (hns : s1.heap.Ns mainGlobals mg) (hb : s1.heap.Ns builtinsNs mb) (hbb : ∀ x : Str, x ≠ "__name__" → mb x = bootBuiltins x) (hlim : s1.heap.NoLimit) (hg : s1.gens = #[])
    (ha : s1.heap.get? a = some { cls := .type "list", data := .seq vs.toArray }) (hr : Room k callerA)
    (F : ∀ bs : Heap, K.In bs → bs.Ns mainGlobals mg → GnOk P w K mg bs k fa fd [x] sp) (hbd : ∀ (s : Shared) (u : Value), BindsTo s fd ⟨[u], []⟩ [(x, u)])
    (H : Hp) (hO : Only H) (hok : HOk P w H s1.heap) (hA : ∀ b, H b ≠ none → b = a) (hK : H a ≠ none → K.lookup a = none) (hs : sp [.ref a] H (fun v _ => v = .bl true) E0) :
    codeAny (model P w) callerA (.call (.ref fa) ⟨[.ref a], []⟩) (LawEnd s1) s1 := by
  have isA : ∀ {b : Addr} {u : HO}, H b = some u → b = a := fun q => hA _ (by rw [q]; simp)
  have nodict : ∀ {b : Addr} {o : Obj} {es : Array DictEntry} {ep : Nat}, s1.heap.get? b = some o → o.data = .dict es ep → H b = none := by
    intro b o es ep e d
    cases q : H b with
    | none => rfl
    | some u =>
      cases isA q
      rw [ha] at e
      cases e
      cases d
  have low : ∀ {b : Addr} {o : Obj}, s1.heap.get? b = some o → H b = none → (hidT s1.heap H).get? b = some o := fun e n => hidT_get e n
  have nsl : ∀ {b : Addr} {m : Str → Option Value}, s1.heap.Ns b m → (hidT s1.heap H).Ns b m := by
    rintro b m ⟨o, es, ep, e, d, r⟩
    exact ⟨o, es, ep, low e (nodict e d), d, r⟩
  have kl : K.In (hidT s1.heap H) := by
    intro b o e
    refine low (KX b o e) ?_
    cases q : H b with
    | none => rfl
    | some u =>
      cases isA q
      rw [hK (by rw [q]; simp)] at e
      cases e
  obtain ⟨mc, hm1, hm2⟩ := hlim
  have md : Mod K mg (hidT s1.heap H) := ⟨kl, nsl hns, ⟨mb, nsl hb, hbb⟩, ⟨mc, nsl hm1, hm2⟩⟩
  have e0 : Env0 P w K mg (hidT s1.heap H) callerA [] s1 H :=
    ⟨rfl, md, fun b o e => of_hidT e, Nat.le_of_eq (hidT_size _ _), trivial, fun b z => absurd (show b ∈ ([] : List Addr) from z) (by simp), hok, .of_eq hg⟩
  refine codeAny_mono ((F _ kl (nsl hns)).run callerA [] s1 H ⟨[.ref a], []⟩ [.ref a] [.ref a] _ _ rfl hr e0 (hbd s1 (.ref a)) (.cons rfl .nil) hs) ?_
  intro r s' z
  match r, z with
  | .ok (.ret u), ⟨v, H', os, bare, un, hok', rv, q⟩ =>
    cases (show v = .bl true from q)
    obtain rfl : u = Value.bool true := rv
    refine ⟨rfl, OldK.of_keep ?_, os, bare⟩
    intro b o e
    cases q : H b with
    | none => exact un.keep b o e q (by intro z; exact absurd (show b ∈ ([] : List Addr) from z) (by simp)) (by simp)
    | some u =>
      rcases hO b with z | ⟨ob, xs, z⟩
      · rw [q] at z
        cases z
      · obtain ⟨g1, _⟩ := hok b _ z
        obtain ⟨g2, _⟩ := hok' b _ (un.frzs b ob _ z)
        rw [e] at g1
        cases g1
        exact g2
theorem law_callG (KX : K.In s1.heap) (hns : s1.heap.Ns mainGlobals mg) (hb : s1.heap.Ns builtinsNs mb) (hbb : ∀ x : Str, x ≠ "__name__" → mb x = bootBuiltins x) (hlim : s1.heap.NoLimit) (hg : s1.gens = #[])
    (ha : s1.heap.get? a = some { cls := .type "list", data := .seq vs.toArray }) (hi : IntsAre vs ns) (hl : ns.length ≤ sizeLine) (hr : Room k callerA)
    (F : ∀ bs : Heap, K.In bs → bs.Ns mainGlobals mg → GnOk P w K mg bs k fa fd [x] sp) (hbd : ∀ (s : Shared) (u : Value), BindsTo s fd ⟨[u], []⟩ [(x, u)])
    (hsp : ∀ H : Hp, Only H → SqL K H a (ns.map V.int) → sp [.ref a] H (fun v _ => v = .bl true) E0) :
    codeAny (model P w) callerA (.call (.ref fa) ⟨[.ref a], []⟩) (LawEnd s1) s1 := by
  have rv := vals_ints hi
  cases hk : K.lookup a with
  | some o =>
    have e := KX a o hk
    rw [ha] at e
    cases e
    have hO : Only (fun _ => none) := fun _ => .inl rfl
    refine law_core KX hns hb hbb hlim hg ha hr F hbd (fun _ => none) hO (fun b u z => nomatch z) (fun b z => absurd rfl z) (fun z => absurd rfl z) (hsp _ hO ?_)
    exact .inr ⟨_, vs.toArray, _, hk, rfl, rfl, rfl, by rw [List.size_toArray, hi.length]; exact hl, by simpa using rv⟩
  | none =>
    let Z : Hp := fun b => if b = a then some (.frz { cls := .type "list", data := .seq vs.toArray } (.lst (ns.map V.int))) else none
    have hZ : Z a = some (.frz { cls := .type "list", data := .seq vs.toArray } (.lst (ns.map V.int))) := if_pos rfl
    have hZn : ∀ b, b ≠ a → Z b = none := fun b h => if_neg h
    have hO : Only Z := fun b => by
      by_cases h : b = a
      · subst h
        exact .inr ⟨_, _, hZ⟩
      · exact .inl (hZn b h)
    refine law_core KX hns hb hbb hlim hg ha hr F hbd Z hO (fun b u z => ?_) (fun b z => ?_) (fun _ => hk) (hsp Z hO (.inl (.inr ⟨_, hZ⟩)))
    · by_cases h : b = a
      · subst h
        rw [hZ] at z
        cases z
        exact ⟨ha, by rw [List.length_map]; exact hl, vs, _, rv, ha⟩
      · rw [hZn b h] at z
        cases z
    · by_cases h : b = a
      · exact h
      · exact absurd (hZn b h) z
end
theorem walk_ofG {l : PySem.W.OpenLaw} {n k : Nat} {q : Program} {loose : List Str} {XP : (Str → Option Value) → Heap → Prop} {YP : World → Heap → Prop} {d : DefRec} {K : Params → PySem.W.Frag} {sp : PySem.W.Frag → Sp} {x : Str}
    (hn : l.most = some n) (hn2 : n ≤ sizeLine) (hdf : d.params.defaults = []) (hr : Room k callerA) (hY : ∀ (w : World) (h : Heap), YP w h → (K w.params).In h)
    (F : ∀ (w : World) (mg : Str → Option Value) (fa : Addr) (h : Heap), (K w.params).In h → h.Ns mainGlobals mg → mg d.name = some (.ref fa) →
      ∃ fd : FuncData, (∀ (s : Shared) (u : Value), BindsTo s fd ⟨[u], []⟩ [(x, u)]) ∧
        ∀ bs : Heap, (K w.params).In bs → bs.Ns mainGlobals mg → GnOk l.prog w (K w.params) mg bs k fa fd [x] (sp (K w.params)))
    (hsp : ∀ (K : PySem.W.Frag) (H : Hp) (a : Addr) (ns : List Int), ns.length ≤ n → Only H → SqL K H a (ns.map V.int) → sp K [.ref a] H (fun v _ => v = .bl true) E0) :
    PySem.W.WalkO q loose XP YP l.row.toRowW d [] (fun f vs => PySem.call f vs) := by
  refine Att.attach_call hn hdf ?_
  intro w s0 s1 mg mb fa o pm cd dc a vs ns G Y ho hd hcd hmg hobj hints hlen hgn
  have KX := hY w _ Y
  obtain ⟨fd, hb, hF⟩ := F w mg fa _ KX G.T.g hmg
  exact law_callG KX G.T.g G.T.b G.T.builtins G.T.nolimit hgn hobj hints (Nat.le_trans hlen hn2) hr hF hb fun H hO hS => hsp _ H a ns hlen hO hS
end Es
namespace Es
open PySem PySem.Spec PyProof.Rows L2 Evl
section
variable {K : PySem.W.Frag} {σ : L2.St} {H H' : Hp} {ta tb tc te : TE} {x y z v w : V} {r r' : R2}
theorem ev_chain {k k' : Bool} (ha : Ev ta σ H x) (hb : Ev tb σ H y) (hr : RV r x y H (.bl k)) (hc : k = true → Ev tc σ H w) (hr' : k = true → RV r' y w H (.bl k')) : Ev (tChain r r' ta tb tc) σ H (.bl (k && k')) := by
  intro H1 e Q q
  refine ha H1 e _ fun H2 e2 => hb H2 (e.trans e2) _ fun H3 e3 => hr H3 ((e.trans e2).trans e3) _ fun H4 e4 => ⟨k, rfl, ?_⟩
  have e14 := (e2.trans e3).trans e4
  cases k with
  | true => exact hc rfl H4 (e.trans e14) _ fun H5 e5 => hr' rfl H5 ((e.trans e14).trans e5) Q fun H6 e6 => q H6 ((e14.trans e5).trans e6)
  | false => exact q H4 e14
/-- a text walked by a comprehension without tests, each sign giving f of it -/
theorem el_lcS {s : Str} {tl : TE} {j : Nat} {vs : List Nat} (f : Nat → V) (h : Ev tl σ H (.str s)) (hz : s.cps.size ≤ 40000) (hw : ∀ x, wipe ((wipe σ vs).set j (some x)) vs = wipe σ vs)
    (he : ∀ (c : Nat) H1, Ex H H1 → c ∈ s.cps.toList → Ev te ((wipe σ vs).set j (some (.str ⟨#[c]⟩))) H1 (f c)) :
    EvL (tLc (iStr tl) (gName j) tYes te vs) σ H (s.cps.toList.map f) := by
  intro H0 e Q q
  refine h H0 e _ fun H1 e1 => ⟨s, rfl, fun D hD => ?_⟩
  refine lc_it walk_str (fun i H' => Ex H1 H' ∧ H' D = some (.lst ((s.cps.toList.take i).map f))) ⟨Ex.new hD, upd_same⟩ (fun _ _ _ _ => trivial) (fun i x Ha Hb hi p y => ?_) (fun Hc p => ?_)
  · obtain ⟨rfl, c, hc, rfl⟩ := y
    refine ⟨hw _, ?_⟩
    show te _ Hb _
    have hm : s.cps.toList[i]? = some c := by rw [Array.getElem?_toList]; exact hc
    refine he c Hb ((e.trans e1).trans p.1) (List.mem_of_getElem? hm) Hb (Ex.refl _) _ fun Hc ec => ⟨_, ec D _ p.2, ?_, Ex.mut (p.1.trans ec) hD, ?_⟩
    · rw [List.length_map, List.length_take]
      exact sz_lt (by rw [Array.length_toList]; omega)
    · rw [upd_same, List.take_add_one, hm, List.map_append]
      rfl
  · have p2 := p.2
    rw [List.take_of_length_le (by rw [Array.length_toList]; exact Nat.le_refl _)] at p2
    exact q D Hc (fresh_back e1 hD) (e1.trans p.1) p2
theorem ev_cbL {r : List V → Hp → VK → Prop} {ta : TE} {xs : List V} (h : EvL ta σ H xs) (hr : ∀ p H1, H1 p = some (.lst xs) → Ex H H1 → RC r [.ref p] H1 z) : Ev (tCB r (tCons ta tNil)) σ H z := fun H1 e Q q =>
  h H1 e _ fun p H2 _ e2 hp => hr p H2 hp (e.trans e2) H2 (Ex.refl _) Q fun H3 e3 => q H3 (e2.trans e3)
/-- the values that a value of any kind may be -/
inductive Thing (H : Hp) : V → Prop
  | non : Thing H .non
  | bl (b : Bool) : Thing H (.bl b)
  | int (i : Int) : Thing H (.int i)
  | str (s : Str) : s.length ≤ 1000 → Thing H (.str s)
  | lst {a : Addr} {xs : List V} : H a = some (.lst xs) → Thing H (.ref a)
  | tup {a : Addr} {xs : List V} : H a = some (.tup xs) → Thing H (.ref a)
  | dK {a : Addr} {kvs : List (Key × V)} : H a = some (.dK kvs) → Thing H (.ref a)
theorem Thing.up (h : Thing H v) (e : Ex H H') : Thing H' v := by
  cases h with
  | non => exact .non
  | bl b => exact .bl b
  | int i => exact .int i
  | str s hs => exact .str s hs
  | lst h => exact .lst (e _ _ h)
  | tup h => exact .tup (e _ _ h)
  | dK h => exact .dK (e _ _ h)
def isS : V → Bool
  | .str _ => true
  | _ => false
theorem Thing.ty (h : Thing H v) : ∃ t : String, TyX K H v (.type t) ∧ kitB t "str" = some (isS v) := by
  cases h with
  | non => exact ⟨_, .base .non, show kitB "NoneType" "str" = some false by decide +kernel⟩
  | bl b => exact ⟨_, .base (.bl b), show kitB "bool" "str" = some false by decide +kernel⟩
  | int i => exact ⟨_, .base (.int i), show kitB "int" "str" = some false by decide +kernel⟩
  | str s hs => exact ⟨_, .base (.str s), show kitB "str" "str" = some true by decide +kernel⟩
  | lst h => exact ⟨_, .base (.lst h), show kitB "list" "str" = some false by decide +kernel⟩
  | tup h => exact ⟨_, .base (.tup h), show kitB "tuple" "str" = some false by decide +kernel⟩
  | dK h => exact ⟨_, .base (.dK h), show kitB "dict" "str" = some false by decide +kernel⟩
theorem Thing.isi (h : Thing H v) : RC (rIsi K) [v, .ty "str"] H (.bl (isS v)) := by
  intro H1 e Q q
  obtain ⟨t, h1, h2⟩ := (h.up e).ty (K := K)
  exact ⟨v, _, _, _, _, rfl, .ty _, h1, kit_ty h2, q H1 (Ex.refl _)⟩
def rLen1 (K : PySem.W.Frag) : List V → Hp → VK → Prop := fun xs H Q => ∃ x n, xs = [x] ∧ LenV K x H n ∧ Q (.int n) H
theorem rc_lenS {s : Str} (h : s.length ≤ 1000) : RC (rLen1 K) [.str s] H (.int (s.length : Int)) := fun H1 _ _ q => ⟨.str s, s.length, rfl, ⟨sz_of (by omega), rfl⟩, q H1 (Ex.refl _)⟩
theorem rc_all {p : Addr} {bs : List Bool} (h : H p = some (.lst (bs.map V.bl))) : RC (rAll K) [.ref p] H (.bl (bs.all id)) := fun H1 e _ q => ⟨p, bs, rfl, sq_of (e _ _ h), q H1 (Ex.refl _)⟩
theorem rc_any {p : Addr} {bs : List Bool} (h : H p = some (.lst (bs.map V.bl))) : RC (rAny K) [.ref p] H (.bl (bs.any id)) := fun H1 e _ q => ⟨p, bs, rfl, sq_of (e _ _ h), q H1 (Ex.refl _)⟩
def rInSign : R2 := fun x y H Q => ∃ (c : Nat) (z : Str), x = .str ⟨#[c]⟩ ∧ y = .str z ∧ Q (.bl (decide (c ∈ z.cps.toList))) H
theorem rv_inSign {c : Nat} {s : Str} : RV rInSign (.str ⟨#[c]⟩) (.str s) H (.bl (decide (c ∈ s.cps.toList))) := fun H1 _ _ q => ⟨c, s, rfl, rfl, q H1 (Ex.refl _)⟩
def rNotInSign : R2 := fun x y H Q => ∃ (c : Nat) (z : Str), x = .str ⟨#[c]⟩ ∧ y = .str z ∧ Q (.bl (!decide (c ∈ z.cps.toList))) H
theorem rv_notInSign {c : Nat} {s : Str} : RV rNotInSign (.str ⟨#[c]⟩) (.str s) H (.bl (!decide (c ∈ s.cps.toList))) := fun H1 _ _ q => ⟨c, s, rfl, rfl, q H1 (Ex.refl _)⟩
end
end Es
namespace Es
open PySem PySem.Spec PyProof.Rows L2 Evl
/-- all but the object at p stays -/
def Xp (p : Addr) (H H' : Hp) : Prop := ∀ a o, a ≠ p → H a = some o → H' a = some o
theorem Xp.refl (p : Addr) (H : Hp) : Xp p H H := fun _ _ _ h => h
theorem Xp.ex {p : Addr} {H H' : Hp} (e : Ex H H') : Xp p H H' := fun a o _ h => e a o h
theorem Xp.trans {p : Addr} {H H1 H2 : Hp} (a : Xp p H H1) (b : Xp p H1 H2) : Xp p H H2 := fun x o n h => b x o n (a x o n h)
theorem Xp.upd {p : Addr} {H : Hp} {o : HO} : Xp p H (upd H p o) := fun a u n h => by
  rw [upd_ne n]
  exact h
/-- a pot: three ints -/
def Pot (H : Hp) (p : Addr) (n : Int) : Prop := ∃ g s c : Int, H p = some (.lst [.int g, .int s, .int c]) ∧ 0 ≤ g ∧ 0 ≤ s ∧ s < 2 ^ 61 ∧ 0 ≤ c ∧ c ≤ n
theorem Pot.up {H H' : Hp} {p : Addr} {n : Int} (h : Pot H p n) (e : Ex H H') : Pot H' p n := by
  obtain ⟨g, s, c, h, r⟩ := h
  exact ⟨g, s, c, e _ _ h, r⟩
theorem Pot.more {H : Hp} {p : Addr} {n m : Int} (h : Pot H p n) (e : n ≤ m) : Pot H p m := by
  obtain ⟨g, s, c, h, r1, r2, r3, r4, r5⟩ := h
  exact ⟨g, s, c, h, r1, r2, r3, r4, by omega⟩
theorem Pot.back {H H' : Hp} {p q : Addr} {n : Int} (h : Pot H' p n) (e : Xp p H H') (hq : H' q = none) : H q = none := by
  obtain ⟨g, s, c, h, _⟩ := h
  cases hh : H q with
  | none => rfl
  | some o =>
    by_cases z : q = p
    · subst z
      rw [h] at hq
      cases hq
    · rw [e q o z hh] at hq
      cases hq
theorem Pot.ne {H : Hp} {p q : Addr} {n : Int} (h : Pot H p n) (hq : H q = none) : q ≠ p := by
  obtain ⟨g, s, c, h, _⟩ := h
  intro z
  subst z
  rw [h] at hq
  cases hq
def spTake : Sp := fun vs H Q _ => ∃ (p : Addr) (n m : Int), vs = [.ref p, .int n] ∧ 1 ≤ n ∧ n ≤ 1000 ∧ m ≤ 100000 ∧ Pot H p m ∧
  ∀ (r : Int) H', 0 ≤ r → r < n → Xp p H H' → Pot H' p (m + 1) → Q (.int r) H'
end Es
namespace Es
open PySem PySem.Spec PyProof.Rows L2 Evl
theorem Xp.mut {p D : Addr} {H H' : Hp} {o : HO} (e : Xp p H H') (h : H D = none) : Xp p H (L2.upd H' D o) := fun a u n ha => by
  rw [upd_ne (ne_of_none ha h)]
  exact e a u n ha
theorem len_glue : ∀ ys : List Str, (∀ y ∈ ys, y.length = 1) → (Str.join "" ys).length = ys.length
  | [], _ => rfl
  | [y], h => h y (List.mem_singleton.mpr rfl)
  | x :: z :: r, h => by
    show (x ++ "" ++ Str.join "" (z :: r)).length = r.length + 1 + 1
    rw [PySem.Str.length_append, PySem.Str.length_append, len_glue (z :: r) (fun y hy => h y (List.mem_cons_of_mem _ hy)), h x (List.mem_cons_self ..)]
    show 1 + 0 + (r.length + 1) = r.length + 1 + 1
    omega
theorem cut_le (z : Str) (lo hi : Option Int) : (cutS z lo hi).length ≤ z.length := by
  show (List.toArray _).size ≤ z.cps.size
  rw [List.size_toArray, List.length_take, List.length_drop, Array.length_toList]
  omega
end Es
namespace Es
open PySem PySem.Spec PyProof.Rows L2 Evl
section
variable {K : PySem.W.Frag} {σ : L2.St} {H H' : Hp} {ta tb te : TE} {tk : TA} {x y z v w : V} {sp : Sp}
def rReprB : List V → Hp → VK → Prop := fun xs H Q => ∃ b : Bool, xs = [.bl b] ∧ Q (.str (if b then "True" else "False")) H
def rReprD (K : PySem.W.Frag) : List V → Hp → VK → Prop := fun xs H Q => ∃ (a : Addr) (d : PyData), xs = [.ref a] ∧ Dp K H (.ref a) d ∧ d.showable = true ∧ d.hasDict = false ∧ d.depth ≤ 60 ∧ d.shown.length ≤ sizeLine ∧ Q (.str d.shown) H
theorem rc_reprB {b : Bool} : RC rReprB [.bl b] H (.str (if b then "True" else "False")) := fun H1 _ _ q => ⟨b, rfl, q H1 (Ex.refl _)⟩
/-- [b, b] written -/
def two (b : Bool) : PyData := .list [.bool b, .bool b]
theorem rc_repr2 {p : Addr} {b : Bool} (h : H p = some (.lst [.bl b, .bl b])) : RC (rReprD K) [.ref p] H (.str (two b).shown) := fun H1 e _ q =>
  ⟨p, two b, rfl, .lst (sq_of (e _ _ h)) (.cons (.bl b) (.cons (.bl b) .nil)), by cases b <;> decide +kernel, by cases b <;> decide +kernel, by cases b <;> decide +kernel, by cases b <;> decide +kernel, q H1 (Ex.refl _)⟩
theorem el_rep {xs : List V} {n : Int} (h : EvL ta σ H xs) (hn : 0 ≤ n ∧ n ≤ 100) (hl : xs.length ≤ 100) : EvL (tOp rRep ta (tC (.int n))) σ H (List.replicate n.toNat xs).flatten := by
  intro H1 e Q q
  refine h H1 e _ fun p H2 hp e2 h2 => ⟨p, n, xs, rfl, rfl, h2, by omega, by omega, ?_, fun r hr => q r _ (fresh_back e2 hr) (e2.trans (Ex.new hr)) upd_same⟩
  have : xs.length * n.toNat ≤ 100 * 100 := Nat.mul_le_mul hl (by omega)
  exact sz_of (by omega)
theorem ev_callK0 {gV : List V → List V → List V} {vs : List V} (h : EvA tk σ H vs) (hs : SpV sp (gV [] vs) H z) : Ev (fun σ H Q => tk σ H fun zs H1 => sp (gV [] zs) H1 Q E0) σ H z := fun H1 e Q q =>
  h H1 e _ fun H2 e2 => hs H2 (e.trans e2) Q (fun H3 e3 => q H3 (e2.trans e3)) E0
end
/-- one keyword alone -/
def kwV : List V → List V → List V
  | [], zs => zs
  | _ :: _, _ => []
def kwU : List Value → List Value → List Value
  | [], zs => zs
  | _ :: _, _ => []
theorem kw_rel {vs zs : List V} {us ws : List Value} (r : Vals vs us) (rz : Vals zs ws) : Vals (kwV vs zs) (kwU us ws) := by
  cases r with
  | nil => exact rz
  | cons _ _ => exact .nil
end Es
namespace PySem.SeqAt
open PySem Builtin
/-- dict.__eq__ of a text, str.__eq__ of a dict -/
theorem es_dict_str (l : Addr) (es : Array DictEntry) (n : Nat) (dd : Option Addr) (sl : Array (Option Value)) (b : Str) (u : Tok) :
    Meets (Builtin.«dict.__eq__» ⟨[.ref l, .str b u], []⟩) (fun _ R s => s.heap.get? l = some { cls := .type "dict", dict := dd, data := .dict es n, slots := sl } ∧ R (.ok (.ret .notImplemented)) s) :=
  .of_wp fun prog w A R s h => by
    obtain ⟨hp, g, d, tk, os⟩ := s
    obtain ⟨hl, h⟩ := h
    have f1 := F.sub_str_dict
    wp_walk using wpAny_loadPart' hl, wpAny_load hl
    exact ⟨_, rfl, h⟩
theorem es_str_dict (l : Addr) (es : Array DictEntry) (n : Nat) (dd : Option Addr) (sl : Array (Option Value)) (b : Str) (u : Tok) :
    Meets (Builtin.«str.__eq__» ⟨[.str b u, .ref l], []⟩) (fun _ R s => s.heap.get? l = some { cls := .type "dict", dict := dd, data := .dict es n, slots := sl } ∧ R (.ok (.ret .notImplemented)) s) :=
  .of_wp fun prog w A R s h => by
    obtain ⟨hp, g, d, tk, os⟩ := s
    obtain ⟨hl, h⟩ := h
    have f1 := F.sub_dict_str
    wp_walk using wpAny_loadPart' hl, wpAny_load hl
    exact ⟨_, rfl, h⟩
section
variable {A : Around} {s : Shared}
def IsDic (h : Heap) (l : Addr) : Prop := ∃ dd es n sl, h.get? l = some { cls := .type "dict", dict := dd, data := .dict es n, slots := sl }
theorem es_rc_dict_str {l : Addr} (b : Str) (u : Tok) (hl : IsDic s.heap l) (hu : A.units < cLine) : RcAt A s (.ref l) (.str b u) false := fun prog w E Q h => by
  obtain ⟨dd, es, n, sl, ho⟩ := hl
  exact rc_eq_decline_or (k := false) ⟨_, ho, rfl⟩ (typeIs_str s b u) (by decide) F.sub_str_dict F.slot_dict_eq F.slot_str_eq_refl
    (fun _ hq => call_meets F.slot_dict_eq ⟨_, ho, rfl⟩ F.entry_dict_eq (F.args_dict_eq_2 _ _) (es_dict_str l es n dd sl b u) ⟨ho, hq⟩)
    (fun _ hq => call_meets F.slot_str_eq_refl (typeIs_str s b u) F.entry_str_eq (F.args_str_eq_2 _ _) (es_str_dict l es n dd sl b u) ⟨ho, hq⟩)
    (fun _ hq => wpAny_of_eq (rfl : isSame (.ref l) (.str b u) = pure false) hq) (.inr hu) h
theorem es_rc_str_dict {l : Addr} (b : Str) (u : Tok) (hl : IsDic s.heap l) (hu : A.units < cLine) : RcAt A s (.str b u) (.ref l) false := fun prog w E Q h => by
  obtain ⟨dd, es, n, sl, ho⟩ := hl
  exact rc_eq_decline_or (k := false) (typeIs_str s b u) ⟨_, ho, rfl⟩ (by decide) F.sub_dict_str F.slot_str_eq F.slot_dict_eq_refl
    (fun _ hq => call_meets F.slot_str_eq (typeIs_str s b u) F.entry_str_eq (F.args_str_eq_2 _ _) (es_str_dict l es n dd sl b u) ⟨ho, hq⟩)
    (fun _ hq => call_meets F.slot_dict_eq_refl ⟨_, ho, rfl⟩ F.entry_dict_eq (F.args_dict_eq_2 _ _) (es_dict_str l es n dd sl b u) ⟨ho, hq⟩)
    (fun _ hq => wpAny_of_eq (rfl : isSame (.str b u) (.ref l) = pure false) hq) (.inr hu) h
theorem es_eq_dict_str {l : Addr} (b : Str) (u : Tok) (hl : IsDic s.heap l) (hu : A.units < cLine) : EqAt A s (.ref l) (.str b u) false := fun prog w E Q h => by
  unfold eqBool
  refine wpAny_holding (wpAny_ite_split (fun hab => absurd (eq_of_beq hab) nofun) (fun _ => ?_))
  exact wpAny_bind (es_rc_dict_str b u hl hu prog w E _ (wpAny_truthy_bool h))
theorem es_eq_str_dict {l : Addr} (b : Str) (u : Tok) (hl : IsDic s.heap l) (hu : A.units < cLine) : EqAt A s (.str b u) (.ref l) false := fun prog w E Q h => by
  unfold eqBool
  refine wpAny_holding (wpAny_ite_split (fun hab => absurd (eq_of_beq hab) nofun) (fun _ => ?_))
  exact wpAny_bind (es_rc_str_dict b u hl hu prog w E _ (wpAny_truthy_bool h))
end
end PySem.SeqAt
namespace Es
open PySem PySem.Spec PyProof.Rows L2 Evl
/-- where data does not stand: at a pot, nor at some lists -/
structure Sx where
  p : Addr
  m : Addr → Prop
def out : Option Sx → Addr → Prop
  | none, _ => False
  | some S, a => a = S.p ∨ S.m a
mutual
/-- data that stands in the heap, not at p; dicts of at most one pair, its key a text -/
inductive Dd (p : Option Sx) (H : Hp) : V → PyData → Prop
  | non : Dd p H .non .none
  | bl (b : Bool) : Dd p H (.bl b) (.bool b)
  | int (i : Int) : Dd p H (.int i) (.int i)
  | str (x : Str) : Dd p H (.str x) (.str x)
  | lst {a : Addr} {xs : List V} {ds : List PyData} : ¬ out p a → a ≠ sysModules → H a = some (.lst xs) → DdAll p H xs ds → Dd p H (.ref a) (.list ds)
  | tup {a : Addr} {xs : List V} {ds : List PyData} : ¬ out p a → H a = some (.tup xs) → DdAll p H xs ds → Dd p H (.ref a) (.tuple ds)
  | dk0 {a : Addr} : ¬ out p a → H a = some (.dK []) → Dd p H (.ref a) (.dict [])
  | dk1 {a : Addr} {k : Str} {v : V} {d : PyData} : ¬ out p a → H a = some (.dK [(Sum.inr k, v)]) → Dd p H v d → Dd p H (.ref a) (.dict [(.str k, d)])
inductive DdAll (p : Option Sx) (H : Hp) : List V → List PyData → Prop
  | nil : DdAll p H [] []
  | cons {v : V} {vs : List V} {d : PyData} {ds : List PyData} : Dd p H v d → DdAll p H vs ds → DdAll p H (v :: vs) (d :: ds)
end
theorem sn0 {a : Addr} : ¬ out none a := fun h => h
theorem no_p {S : Sx} {a : Addr} (h : ¬ out (some S) a) : a ≠ S.p := fun e => h (.inl e)
section
variable {p : Option Sx} {H H' : Hp}
mutual
theorem Dd.xp {q : Sx} (e : Xp q.p H H') : ∀ {v : V} {d : PyData}, Dd (some q) H v d → Dd (some q) H' v d
  | _, _, .non => .non
  | _, _, .bl b => .bl b
  | _, _, .int i => .int i
  | _, _, .str x => .str x
  | _, _, .lst n m h r => .lst n m (e _ _ (no_p n) h) (DdAll.xp e r)
  | _, _, .tup n h r => .tup n (e _ _ (no_p n) h) (DdAll.xp e r)
  | _, _, .dk0 n h => .dk0 n (e _ _ (no_p n) h)
  | _, _, .dk1 n h r => .dk1 n (e _ _ (no_p n) h) (Dd.xp e r)
theorem DdAll.xp {q : Sx} (e : Xp q.p H H') : ∀ {vs : List V} {ds : List PyData}, DdAll (some q) H vs ds → DdAll (some q) H' vs ds
  | _, _, .nil => .nil
  | _, _, .cons h r => .cons (Dd.xp e h) (DdAll.xp e r)
end
mutual
theorem Dd.ups (e : Ex H H') : ∀ {v : V} {d : PyData}, Dd p H v d → Dd p H' v d
  | _, _, .non => .non
  | _, _, .bl b => .bl b
  | _, _, .int i => .int i
  | _, _, .str x => .str x
  | _, _, .lst n m h r => .lst n m (e _ _ h) (DdAll.ups e r)
  | _, _, .tup n h r => .tup n (e _ _ h) (DdAll.ups e r)
  | _, _, .dk0 n h => .dk0 n (e _ _ h)
  | _, _, .dk1 n h r => .dk1 n (e _ _ h) (Dd.ups e r)
theorem DdAll.ups (e : Ex H H') : ∀ {vs : List V} {ds : List PyData}, DdAll p H vs ds → DdAll p H' vs ds
  | _, _, .nil => .nil
  | _, _, .cons h r => .cons (Dd.ups e h) (DdAll.ups e r)
end
theorem Dd.up {v : V} {d : PyData} (h : Dd p H v d) (e : Ex H H') : Dd p H' v d := h.ups e
theorem DdAll.up {v : List V} {d : List PyData} (h : DdAll p H v d) (e : Ex H H') : DdAll p H' v d := h.ups e
theorem DdAll.length : ∀ {vs : List V} {ds : List PyData}, DdAll p H vs ds → vs.length = ds.length
  | _, _, .nil => rfl
  | _, _, .cons _ r => by rw [List.length_cons, List.length_cons, DdAll.length r]
theorem DdAll.append : ∀ {vs ws : List V} {ds es : List PyData}, DdAll p H vs ds → DdAll p H ws es → DdAll p H (vs ++ ws) (ds ++ es)
  | _, _, _, _, .nil, h => h
  | _, _, _, _, .cons h r, k => .cons h (DdAll.append r k)
theorem DdAll.drop : ∀ {vs : List V} {ds : List PyData} (i : Nat), DdAll p H vs ds → DdAll p H (vs.drop i) (ds.drop i)
  | _, _, 0, h => h
  | _, _, _ + 1, .nil => .nil
  | _, _, i + 1, .cons _ r => DdAll.drop i r
theorem DdAll.take : ∀ {vs : List V} {ds : List PyData} (i : Nat), DdAll p H vs ds → DdAll p H (vs.take i) (ds.take i)
  | _, _, 0, h => .nil
  | _, _, _ + 1, .nil => .nil
  | _, _, i + 1, .cons h r => .cons h (DdAll.take i r)
theorem DdAll.get : ∀ {vs : List V} {ds : List PyData} {i : Nat} {v : V}, DdAll p H vs ds → vs[i]? = some v → ∃ d, ds[i]? = some d ∧ Dd p H v d
  | _, _, 0, _, .cons h _, e => ⟨_, rfl, by cases e; exact h⟩
  | _, _, i + 1, _, .cons _ r, e => DdAll.get (i := i) r e
theorem Dd.thing {v : V} {d : PyData} (h : Dd p H v d) (hs : ∀ x, d = .str x → x.length ≤ 1000) : Thing H v := by
  cases h with
  | non => exact .non
  | bl b => exact .bl b
  | int i => exact .int i
  | str x => exact .str x (hs x rfl)
  | lst n m h r => exact .lst h
  | tup n h r => exact .tup h
  | dk0 n h => exact .dK h
  | dk1 n h r => exact .dK h
end
section
variable {X : Cx} {pins : List (Addr × Obj)} {σ : L2.St} {H : Hp} {s : Shared} {p : Option Sx}
theorem dic_of (I : Inv X pins σ H s) {a : Addr} {kvs : List (Key × V)} (h : H a = some (.dK kvs)) : SeqAt.IsDic s.heap a ∧ a ≠ sysModules := by
  obtain ⟨_, hs, vs, rv, hd⟩ := (show ObjOk X.prog X.w H s.heap a (.dK kvs) from I.hok a _ h)
  obtain ⟨⟨cls, dd, data, sl⟩, es, ep, ho, ⟨h1, h2, h3⟩, h4, _⟩ := hd
  cases (show cls = _ from h1)
  cases (show data = _ from h4)
  exact ⟨⟨dd, es, ep, sl, ho⟩, beq_eq_false_iff_ne.mp hs⟩
end
end Es
namespace Es
open PySem PySem.Spec PyProof.Rows L2 Evl
section
variable {X : Cx} {pins : List (Addr × Obj)} {σ : L2.St} {H : Hp} {s : Shared} {p : Option Sx}
mutual
theorem Dd.reads (I : Inv X pins σ H s) : ∀ {v : V} {d : PyData} {u : Value}, Dd p H v d → RelV v u → ∃ as, Reads s.heap u d as ∧ sysModules ∉ as
  | _, _, _, .non, r => by
    cases r
    exact ⟨_, Reads.none, List.not_mem_nil⟩
  | _, _, _, .bl b, r => by
    cases r
    exact ⟨_, Reads.bool b, List.not_mem_nil⟩
  | _, _, _, .int i, r => by
    obtain ⟨t, rfl⟩ := r
    exact ⟨_, Reads.int i t, List.not_mem_nil⟩
  | _, _, _, .str x, r => by
    obtain ⟨t, rfl⟩ := r
    exact ⟨_, Reads.str x t, List.not_mem_nil⟩
  | _, _, _, .lst n m h q, r => by
    cases r
    obtain ⟨its, rv, ⟨o, k, ho, hc, _, hd⟩, _⟩ := I.list (sq_of h)
    obtain ⟨as, hr, hn⟩ := DdAll.reads I q rv
    refine ⟨_, Reads.list ho hc hd hr, fun z => ?_⟩
    rcases List.mem_cons.mp z with e | e
    · exact m e.symm
    · exact hn e
  | _, _, _, .tup n h q, r => by
    cases r
    obtain ⟨its, rv, ⟨o, ho, hc, k, hd⟩, _⟩ := I.tuple (st_of h)
    obtain ⟨as, hr, hn⟩ := DdAll.reads I q rv
    exact ⟨_, Reads.tuple ho hc hd hr, hn⟩
  | _, _, _, @Dd.dk0 _ _ a n h, r => by
    cases r
    have hm := (dic_of I h).2
    obtain ⟨_, _, vs, rv, hd⟩ := (show ObjOk X.prog X.w H s.heap a (.dK []) from I.hok a _ h)
    obtain ⟨o, es, ep, ho, hx, hdt, hk, hp, _⟩ := hd
    cases rv
    have he : es.toList = [] := by
      generalize es.toList = l at hp
      cases hp
      rfl
    refine ⟨_, Reads.dict (kvs := []) ho hx.1 hdt (as := []) (bs := []) (by rw [he]; exact .nil) (by rw [he]; exact .nil), fun z => ?_⟩
    rcases List.mem_cons.mp z with e | e
    · exact hm e.symm
    · cases e
  | _, _, _, @Dd.dk1 _ _ a k v d n h q, r => by
    cases r
    have hm := (dic_of I h).2
    obtain ⟨_, _, vs, rv, hd⟩ := (show ObjOk X.prog X.w H s.heap a (.dK [(Sum.inr k, v)]) from I.hok a _ h)
    obtain ⟨o, es, ep, ho, hx, hdt, hk, hp, _⟩ := hd
    obtain ⟨w, rfl, rw⟩ : ∃ w, vs = [(Sum.inr k, w)] ∧ RelV v w := by
      unfold KV at rv
      match vs, rv with
      | [(y1, y2)], .cons q1 .nil =>
        have e1 : Sum.inr k = y1 := q1.1
        subst e1
        exact ⟨y2, rfl, q1.2⟩
    obtain ⟨as, ar, an⟩ := Dd.reads I q rw
    obtain ⟨e, t, he, hkey, hval⟩ : ∃ (e : DictEntry) (t : Tok), es.toList = [e] ∧ e.key = .str k t ∧ e.val = w := by
      generalize es.toList = l at hp
      cases hp with
      | cons z1 z2 z3 =>
        cases z3
        rename_i e
        rcases keyIs_shape (k := Sum.inr k) (v := e.key) z1 with ⟨i, t, e1, _⟩ | ⟨x, t, e1, e2⟩
        · cases e1
        · cases e1
          exact ⟨e, t, rfl, e2, z2⟩
    refine ⟨_, Reads.dict (kvs := [(.str k, d)]) ho hx.1 hdt (as := [] ++ []) (bs := as ++ []) (by rw [he, List.map_singleton, hkey]; exact .cons (.str k t) .nil) (by rw [he, List.map_singleton, hval]; exact .cons ar .nil), fun z => ?_⟩
    rcases List.mem_cons.mp z with y | y
    · exact hm y.symm
    · rw [List.append_nil] at y
      exact an (by simpa using y)
theorem DdAll.reads (I : Inv X pins σ H s) : ∀ {vs : List V} {ds : List PyData} {us : List Value}, DdAll p H vs ds → Vals vs us → ∃ as, ReadsAll s.heap us ds as ∧ sysModules ∉ as
  | _, _, _, .nil, r => by
    cases r
    exact ⟨_, ReadsAll.nil, List.not_mem_nil⟩
  | _, _, _, .cons h q, r => by
    cases r with
    | cons r1 r2 =>
      obtain ⟨as, a1, a2⟩ := Dd.reads I h r1
      obtain ⟨bs, b1, b2⟩ := DdAll.reads I q r2
      exact ⟨_, ReadsAll.cons a1 b1, fun z => (List.mem_append.mp z).elim a2 b2⟩
end
end
/-- what repr asks of data, dicts among it -/
def Fit (n : Nat) (d : PyData) : Prop := d.showable = true ∧ d.leavesShort 30 = true ∧ d.bulk ≤ 8 * n ∧ d.depth ≤ n
theorem Fit.more {n m : Nat} {d : PyData} (h : Fit n d) (e : n ≤ m) : Fit m d := ⟨h.1, h.2.1, (by have := h.2.2.1; omega), Nat.le_trans h.2.2.2 e⟩
theorem Fit.len {n : Nat} {d : PyData} (h : Fit n d) : d.shown.length ≤ 256 * n + 30 := by
  have := PyData.shown_le_bulk 30 (by decide) d h.2.1
  have := h.2.2.1
  omega
def Fits (n : Nat) (ds : List PyData) : Prop := PyData.showableAll ds = true ∧ PyData.leavesShortAll 30 ds = true ∧ PyData.bulkAll ds ≤ 8 * n ∧ PyData.depthAll ds ≤ n
theorem Fits.nil : Fits 0 [] := ⟨rfl, rfl, Nat.le_refl _, Nat.le_refl _⟩
theorem Fits.cons {n m : Nat} {d : PyData} {ds : List PyData} (h : Fit n d) (k : Fits m ds) : Fits (n + 1 + m) (d :: ds) := by
  obtain ⟨a1, a2, a3, a4⟩ := h
  obtain ⟨b1, b2, b3, b4⟩ := k
  refine ⟨?_, ?_, ?_, ?_⟩
  · show (d.showable && PyData.showableAll ds) = true
    rw [a1, b1]
    rfl
  · show (d.leavesShort 30 && PyData.leavesShortAll 30 ds) = true
    rw [a2, b2]
    rfl
  · show d.bulk + 1 + PyData.bulkAll ds ≤ 8 * (n + 1 + m)
    omega
  · show max d.depth (PyData.depthAll ds) ≤ n + 1 + m
    omega
theorem Fits.more {n m : Nat} {d : List PyData} (h : Fits n d) (e : n ≤ m) : Fits m d := ⟨h.1, h.2.1, (by have := h.2.2.1; omega), Nat.le_trans h.2.2.2 e⟩
theorem Fits.tup {n : Nat} {ds : List PyData} (h : Fits n ds) : Fit (n + 1) (.tuple ds) := by
  obtain ⟨a1, a2, a3, a4⟩ := h
  refine ⟨a1, a2, ?_, ?_⟩
  · show PyData.bulkAll ds ≤ 8 * (n + 1)
    omega
  · show PyData.depthAll ds + 1 ≤ n + 1
    omega
theorem Fits.lst {n : Nat} {ds : List PyData} (h : Fits n ds) : Fit (n + 1) (.list ds) := by
  obtain ⟨a1, a2, a3, a4⟩ := h
  refine ⟨a1, a2, ?_, ?_⟩
  · show PyData.bulkAll ds ≤ 8 * (n + 1)
    omega
  · show PyData.depthAll ds + 1 ≤ n + 1
    omega
theorem fit_non : Fit 0 .none := ⟨rfl, rfl, Nat.le_refl _, Nat.le_refl _⟩
theorem fit_bl (b : Bool) : Fit 0 (.bool b) := ⟨rfl, rfl, Nat.le_refl _, Nat.le_refl _⟩
theorem fit_str {x : Str} {n : Nat} (h : (x.cps.toList.all fun c => decide (c < 16 ^ 8)) = true) (hn : x.length ≤ 8 * n) : Fit n (.str x) := ⟨rfl, h, hn, Nat.zero_le _⟩
theorem fit_int {i : Int} (h : i.natAbs.log2 < 1920) (hl : (PyData.shown (.int i)).length ≤ 30) : Fit 0 (.int i) := ⟨decide_eq_true h, decide_eq_true hl, Nat.le_refl _, Nat.le_refl _⟩
theorem fit_dk0 : Fit 1 (.dict []) := ⟨rfl, rfl, Nat.zero_le _, Nat.le_refl _⟩
theorem fit_dk1 {k : Str} {d : PyData} {n : Nat} (hk : (k.cps.toList.all fun c => decide (c < 16 ^ 8)) = true) (hkl : k.length ≤ 10) (h : Fit n d) : Fit (n + 13) (.dict [(.str k, d)]) := by
  obtain ⟨a1, a2, a3, a4⟩ := h
  refine ⟨?_, ?_, ?_, ?_⟩
  · show (true && d.showable && true) = true
    rw [a1]
    rfl
  · show ((k.cps.toList.all fun c => decide (c < 16 ^ 8)) && d.leavesShort 30 && true) = true
    rw [hk, a2]
    rfl
  · show k.cps.size + d.bulk + 2 + 0 ≤ 8 * (n + 13)
    have : k.cps.size ≤ 10 := hkl
    omega
  · show max (max 0 d.depth) 0 + 1 ≤ n + 13
    omega
section
variable {X : Cx}
def rReprX : List V → Hp → VK → Prop := fun xs H Q => ∃ (v : V) (d : PyData) (p : Option Sx), xs = [v] ∧ Dd p H v d ∧ Fit 190 d ∧ Q (.str d.shown) H
theorem cr_reprX (hg : X.A.guards = some []) (hu : X.A.units + 200 < cLine) : CallR X (.builtin "repr") rReprX := by
  intro pins s σ H xs us Q I r h
  obtain ⟨v, d, p, rfl, hd, hf, q⟩ := h
  obtain ⟨u, rfl, ru⟩ := vals1 r
  obtain ⟨as, rd, hn⟩ := hd.reads I ru
  have hz : d.shown.length ≤ sizeLine := sz_of (Nat.le_trans hf.len (by decide))
  have big : ∀ a, v = .ref a → wpAny (model X.prog X.w) X.A (call (.builtin "repr") [u]) (EP X pins σ Q) X.xe s := by
    rintro a rfl
    obtain rfl : u = Value.ref a := ru
    refine repr_of_reads' rd hf.1 (fun _ => hn) hg (by have := hf.2.2.2; omega) (fun _ _ e => e) (fun h' u tk hk => ?_) hz
    exact ⟨.str d.shown, H, I.kept (t' := tk) hk, ⟨_, rfl⟩, q⟩
  cases hd with
  | non =>
    cases ru
    exact PySem.P.repr_of_none ⟨.str _, H, I.tok _, ⟨_, rfl⟩, q⟩
  | bl b =>
    obtain rfl : u = Value.bool b := ru
    exact PySem.P.repr_of_bool ⟨.str _, H, I.tok _, ⟨_, rfl⟩, q⟩
  | int i =>
    obtain ⟨t, rfl⟩ := ru
    exact PySem.P.repr_of_int (of_decide_eq_true hf.1) ⟨.str _, H, I.tok _, ⟨_, rfl⟩, q⟩
  | str x =>
    obtain ⟨t, rfl⟩ := ru
    exact PySem.P.repr_of_str ⟨.str _, H, I.tok _, ⟨_, rfl⟩, q⟩ hz
  | lst n m h r => exact big _ rfl
  | tup n h r => exact big _ rfl
  | dk0 n h => exact big _ rfl
  | dk1 n h r => exact big _ rfl
/-- is the datum this text? -/
def isT (z : Str) : PyData → Bool
  | .str y => y == z
  | _ => false
theorem eqAt_dS {pins : List (Addr × Obj)} {σ : L2.St} {H : Hp} {s : Shared} {p : Option Sx} {v : V} {d : PyData} {u : Value} {z : Str} {t : Tok} {A : Around} (I : Inv X pins σ H s) (h : Dd p H v d) (r : RelV v u) (hu : A.units < cLine) :
    SeqAt.EqAt A s u (.str z t) (isT z d) := by
  cases h with
  | non =>
    cases r
    exact SeqAt.EqAt.none_str _ _
  | bl b =>
    obtain rfl : u = Value.bool b := r
    exact SeqAt.EqAt.bool_str _ _ _
  | int i =>
    obtain ⟨t', rfl⟩ := r
    exact SeqAt.EqAt.int_str _ _ _ _
  | str x =>
    obtain ⟨t', rfl⟩ := r
    exact SeqAt.EqAt.str_str _ _ _ _
  | lst n m h q =>
    cases r
    obtain ⟨its, rv, pl, _⟩ := I.list (sq_of h)
    exact SeqAt.EqAt.list_str _ _ pl.isList hu
  | tup n h q =>
    cases r
    obtain ⟨its, rv, ⟨o, ho, hc, k, hd⟩, _⟩ := I.tuple (st_of h)
    exact SeqAt.EqAt.tuple_str _ _ ⟨o, ho, hc, k, hd⟩ hu
  | dk0 n h =>
    cases r
    exact SeqAt.es_eq_dict_str _ _ (dic_of I h).1 hu
  | dk1 n h q =>
    cases r
    exact SeqAt.es_eq_dict_str _ _ (dic_of I h).1 hu
theorem eqAt_Sd {pins : List (Addr × Obj)} {σ : L2.St} {H : Hp} {s : Shared} {p : Option Sx} {v : V} {d : PyData} {u : Value} {z : Str} {t : Tok} {A : Around} (I : Inv X pins σ H s) (h : Dd p H v d) (r : RelV v u) (hu : A.units < cLine) :
    SeqAt.EqAt A s (.str z t) u (isT z d) := by
  cases h with
  | non =>
    cases r
    exact SeqAt.EqAt.str_none _ _
  | bl b =>
    obtain rfl : u = Value.bool b := r
    exact SeqAt.EqAt.str_bool _ _ _
  | int i =>
    obtain ⟨t', rfl⟩ := r
    exact SeqAt.EqAt.str_int _ _ _ _
  | str x =>
    obtain ⟨t', rfl⟩ := r
    have e : isT z (.str x) = (z == x) := by
      show (x == z) = (z == x)
      by_cases h : x = z
      · rw [h]
      · rw [beq_eq_false_iff_ne.mpr h, beq_eq_false_iff_ne.mpr (Ne.symm h)]
    rw [e]
    exact SeqAt.EqAt.str_str _ _ _ _
  | lst n m h q =>
    cases r
    obtain ⟨its, rv, pl, _⟩ := I.list (sq_of h)
    exact SeqAt.EqAt.str_list _ _ pl.isList hu
  | tup n h q =>
    cases r
    obtain ⟨its, rv, ⟨o, ho, hc, k, hd⟩, _⟩ := I.tuple (st_of h)
    exact SeqAt.EqAt.str_tuple _ _ ⟨o, ho, hc, k, hd⟩ hu
  | dk0 n h =>
    cases r
    exact SeqAt.es_eq_str_dict _ _ (dic_of I h).1 hu
  | dk1 n h q =>
    cases r
    exact SeqAt.es_eq_str_dict _ _ (dic_of I h).1 hu
end
end Es
namespace PySem
/-- enumerate of one thing -/
theorem es_enum_new {v : Value} {o : Obj} {H : Heap → Prop} (B : Begins v o H) :
    Meets (Builtin.«enumerate.__new__» ⟨[.type "enumerate", v], []⟩) (fun _ R s => H s.heap ∧
      R (.ok (.ret (.ref (s.heap.push o).objs.size))) { s with heap := (s.heap.push o).push { cls := .type "enumerate", data := .fields #[.none, .bool false, .ref s.heap.objs.size, rawInt 0, .none, .none] } }) :=
  .of_wp fun prog w A R s h => by
    obtain ⟨hp, g, d, tk, os⟩ := s
    obtain ⟨h1, h⟩ := h
    have hs := sub_enumerate
    have b1 : ∀ {A' : Around} {E : Value → Shared → Prop} {Q : Value → Shared → Prop}, Q (.ref hp.objs.size) ⟨hp.push o, g, d, tk, os⟩ → wpAny (model prog w) A' (pyIter v) Q E ⟨hp, g, d, tk, os⟩ :=
      fun q => B.iter prog w _ _ ⟨hp, g, d, tk, os⟩ _ h1 q
    wp_walk using b1
    refine wpAny_stack_any fun st => wpAny_pure ?_
    split
    · rename_i c _ _ _ _ _
      cases (c == Value.type "enumerate") <;> (wp_walk using b1; exact ⟨_, rfl, h⟩)
    · wp_walk using b1
      exact ⟨_, rfl, h⟩
theorem es_enum_tup {prog : Program} {w : World} {A : Around} {E : Value → Shared → Prop} {s : Shared} {l : Addr} {its : Array Value} {Q : Value → Shared → Prop} (hL : s.heap.IsTuple l its)
    (h : ∀ h', IsEnum h' (s.heap.objs.size + 1) s.heap.objs.size 0 .none → h'.IsTupleIter s.heap.objs.size l 0 → h'.objs.size = s.heap.objs.size + 2 →
      (∀ b o, s.heap.get? b = some o → h'.get? b = some o) → Q (.ref (s.heap.objs.size + 1)) { s with heap := h' }) :
    wpAny (model prog w) A (call (.type "enumerate") [.ref l]) Q E s := by
  have B := begins_tuple l its
  refine callType_new F.called_enumerate (by decide) (F.typeCall_enumerate_1 _) (F.newCall_enumerate_1 _) (fun obj => F.args_object_init_2 obj _) F.entry_enumerate_new (es_enum_new B) ⟨hL, ?_⟩
  have hz : (s.heap.push { cls := .type "tuple_iterator", data := .fields #[.ref l, .int 0 0] }).objs.size = s.heap.objs.size + 1 := Heap.size_push ..
  show _ ∧ _
  rw [hz]
  have he : IsEnum ((s.heap.push { cls := .type "tuple_iterator", data := .fields #[.ref l, .int 0 0] }).push { cls := .type "enumerate", data := .fields #[.none, .bool false, .ref s.heap.objs.size, rawInt 0, .none, .none] }) (s.heap.objs.size + 1) s.heap.objs.size 0 .none := by
    have := Heap.get?_push_size (s.heap.push { cls := .type "tuple_iterator", data := .fields #[.ref l, .int 0 0] }) (o := { cls := .type "enumerate", data := .fields #[.none, .bool false, .ref s.heap.objs.size, rawInt 0, .none, .none] }) rfl
    rw [hz] at this
    exact this
  refine ⟨⟨_, he, rfl⟩, h _ he ⟨_, Heap.get?_push_of_some _ (Heap.get?_push_size _ rfl), rfl, rfl⟩ (by rw [Heap.size_push, hz]) ?_⟩
  intro b o x
  exact Heap.get?_push_of_some _ (Heap.get?_push_of_some _ x)
end PySem
namespace Es
open PySem PySem.Spec PyProof.Rows L2 Evl
/-- the tuple at a, each item with its number in a new pair -/
def Iet (K : PySem.W.Frag) (a : Addr) : It :=
  ⟨fun i H => ∃ (xs : List V) (x : V), SqT K H a xs ∧ xs[i]? = some x, fun i H v H' => ∃ T x, v = .ref T ∧ H T = none ∧ H' = upd H T (.tup [.int (i : Nat), x]) ∧ ∀ xs, SqT K H a xs → xs[i]? = some x,
    fun i H => ∃ xs : List V, SqT K H a xs ∧ xs.length = i⟩
theorem turn_et {P : Program} {w : World} {K : PySem.W.Frag} {elts : List Expr} {kk : Nat} {tpos : Pos} (a e it : Addr) :
    Turn P w K (.Tuple elts kk tpos) (Iet K a) [e, it] e (fun i h => (∃ old, IsEnum h e it ((i : Nat) : Int) old) ∧ h.IsTupleIter it a i ∧ e ≠ it ∧ a ≠ it ∧ e ≠ a) where
  mem := by simp
  obj := fun i h st b hb => by
    obtain ⟨⟨old, he⟩, ⟨o, ho, hc, hd⟩, _⟩ := st
    rcases List.mem_cons.mp hb with z | z
    · subst z
      exact ⟨_, he, fun v q => nomatch q⟩
    · cases List.mem_singleton.mp z
      exact ⟨o, ho, fun v q => by rw [hd] at q; cases q⟩
  keep := fun i h h' st k => by
    obtain ⟨⟨old, he⟩, hi, r⟩ := st
    exact ⟨⟨old, k e (by simp) _ he⟩, hi.at fun o q => k it (by simp) o q, r⟩
  item := by
    intro X hP hw hK hc i pins s σ H E I hf st hg
    subst hP hw hK
    obtain ⟨⟨old, he⟩, hit, hne, hai, hea⟩ := st
    obtain ⟨xs, x, hq, hx⟩ := hg
    obtain ⟨its, rv, it0, hz⟩ := I.tuple hq
    obtain ⟨u, hu, ru⟩ := rv.get hx
    have hel : e < s.heap.objs.size := Heap.lt_size he
    have hil : it < s.heap.objs.size := by
      obtain ⟨_, q, _⟩ := hit
      exact Heap.lt_size q
    have hlt : i < its.toArray.size := by
      rw [List.size_toArray]
      exact (List.getElem?_eq_some_iff.mp hu).1
    have D := Draws.tuple (prog := X.prog) (w := X.w) (A := X.A.in1) (I.ok.hd hc) it a hai its.toArray
    refine wpAny_pyNext_enum_itemD D he ⟨hit, it0⟩ hlt hne (by simp [hne, hea]) ?_
    intro y h' tk hy ho hst hT hsz hk
    have hyu : y = u := by
      have h1 : its.toArray[i]? = some y := hy
      have h2 : its.toArray[i]? = some u := by simpa using hu
      exact Option.some.inj (h1.symm.trans h2)
    subst hyu
    refine ⟨_, rfl, wpAny_letOwnedTupleGo_enum (s := { s with heap := h', toks := tk + 1 }) ho ?_⟩
    intro h'' he' sb
    have hT2 : h''.get? s.heap.objs.size = some { cls := .type "tuple", data := .seq #[.int i tk, y] } := (sb.2 _ (Nat.ne_of_gt hel)).trans hT
    have new : ObjOk X.prog X.w (upd H s.heap.objs.size (.tup [.int (i : Nat), x])) h'' s.heap.objs.size (.tup [.int (i : Nat), x]) :=
      ⟨by show 2 ≤ sizeLine; decide, [.int i tk, y], .cons ⟨_, rfl⟩ (.cons ru .nil), ⟨_, hT2, rfl, _, rfl⟩⟩
    have I1 : Inv X pins σ (upd H s.heap.objs.size (.tup [.int (i : Nat), x])) { s with heap := h'', toks := tk + 1 } :=
      I.turnedNew (ch := [e, it]) (fun b ob hb q => (sb.2 b (fun z => hb (by simp [z]))).trans (hk b ob (fun z => hb (by simp [z])) (fun z => hb (by simp [z])) q)) hf (Nat.le_refl _) new
    refine ⟨.ref s.heap.objs.size, _, I1, rfl, ⟨_, x, rfl, I.hok.fresh (Nat.le_refl _), rfl, fun ys hy => by rw [I.tuple_inj hy hq]; exact hx⟩, ⟨⟨y, ?_⟩, hst.1.at fun o q => (sb.2 it (Ne.symm hne)).trans q, hne, hai, hea⟩, fun b hb => ?_⟩
    · rw [show ((i + 1 : Nat) : Int) = (i : Int) + 1 by omega]
      exact he'
    · have hb' : b < s.heap.objs.size := by
        rcases List.mem_cons.mp hb with z | z
        · subst z
          exact hel
        · cases List.mem_singleton.mp z
          exact hil
      rw [upd_ne (Nat.ne_of_lt hb')]
      exact (hf b hb).1
  done := by
    intro X hP hw hK hc i pins s σ H E I hf st hg
    subst hP hw hK
    obtain ⟨⟨old, he⟩, hit, hne, hai, hea⟩ := st
    obtain ⟨xs, hq, hx⟩ := hg
    obtain ⟨its, rv, it0, hz⟩ := I.tuple hq
    obtain ⟨f0, f1, f2, f3, f4, f5⟩ := hf it (by simp)
    have D := Draws.tuple (prog := X.prog) (w := X.w) (A := X.A.in1) (I.ok.hd hc) it a hai its.toArray
    have hl := rv.length
    have hn : its.toArray.size = i := by
      rw [List.size_toArray]
      omega
    refine wpAny_pyNext_enum_endD D he (by rw [hn]; exact ⟨hit, it0⟩) ?_
    intro h' eb
    exact ⟨rfl, I.turned (t' := s.toks) (fun b o hb q => eb b o hb q) f0 f1 f3 f4 f5⟩
  self := fun A i s Q E st h => wpAny_pyIter_enum st.1.choose_spec h
def iEt (K : PySem.W.Frag) (ta : TA) : TI := fun σ H R => ta σ H fun vs H1 => ∃ a xs, vs = [.ref a] ∧ SqT K H1 a xs ∧ R (Iet K a) H1
theorem pi_et {X : Cx} {e : Expr} {ta : TA} {p pos tpos : Pos} {elts : List Expr} {kk : Nat} (hg : Gl X "enumerate") (hm : X.mg "enumerate" = none) (ha : PA X [e] ta) (hs : starEach [e] X.env = [(false, eval e X.env)] := by rfl) :
    PI X (.Tuple elts kk tpos) (.Call (.Name "enumerate" p) [e] [] pos) (iEt X.K ta) := by
  refine ⟨?_⟩
  intro pins s σ H R I h
  refine Call_ (ld_blt I hg hm boot_enumerate (PyProof.Rows.callWith_type1 (thn (ha.run pos pins s σ H _ I h) ?_) hs rfl))
  rintro us s1 ⟨vs, H1, I1, r1, a, xs, rfl, hq, q⟩
  cases r1 with
  | cons r rr =>
    cases rr
    cases r
    obtain ⟨its, rv, it0, hz⟩ := I1.tuple hq
    have hlt : a < s1.heap.objs.size := it0.lt
    refine es_enum_tup it0 ?_
    intro h' he hit hsz hk
    refine wpAny_pyIter_enum he ?_
    have I2 : Inv X pins σ H1 { s1 with heap := h' } := I1.kept (t' := s1.toks) hk
    refine ⟨s1.heap.objs.size + 1, [s1.heap.objs.size + 1, s1.heap.objs.size], _, _, H1, rfl, I2, turn_et a (s1.heap.objs.size + 1) s1.heap.objs.size, ⟨⟨.none, he⟩, hit, Nat.succ_ne_self _, Nat.ne_of_lt hlt, Nat.ne_of_gt (Nat.lt_succ_of_lt hlt)⟩, fun b hb => ?_, q⟩
    have hle : s1.heap.objs.size ≤ b := by
      rcases List.mem_cons.mp hb with z | z
      · subst z
        exact Nat.le_succ _
      · cases List.mem_singleton.mp z
        exact Nat.le_refl _
    exact I1.fpOk hle (I1.hok.fresh hle)
theorem walk_et {K : PySem.W.Frag} {a : Addr} {xs : List V} : Walk (Iet K a) xs.length (fun H => SqT K H a xs) (YPair (fun i => some (.int (i : Nat))) (fun i => xs[i]?)) := by
  refine ⟨fun i _ hi q => ⟨xs, xs[i], q, by simp [hi]⟩, fun _ q => ⟨xs, q, rfl⟩, fun i H v H' _ q y => ?_⟩
  obtain ⟨T, x, h1, h2, h3, h4⟩ := y
  exact ⟨T, .int (i : Nat), x, h1, h2, h3, rfl, h4 xs q⟩
end Es
namespace Es
open PySem PySem.Spec PyProof.Rows L2 Evl
section
variable {X : Cx} {es : List Expr} {t : TA} {pos : Pos}
/-- a written list: its place is none of the interpreter's own -/
def tLst1 (t : TA) : TE := fun σ H Q => t σ H fun xs H1 => xs.length ≤ sizeLine ∧ ∀ p, p ≠ sysModules → H1 p = none → Q (.ref p) (upd H1 p (.lst xs))
theorem pe_lst1 (h : PA X es t) : PE X (.List es pos) (tLst1 t) := by
  refine ⟨?_⟩
  intro pins s σ H Q I hq
  refine wpAny_List_spliced (thn (h.run pos pins s σ H _ I hq) ?_)
  rintro us s1 ⟨xs, H1, I1, r, z, q⟩
  have nf : H1 s1.heap.objs.size = none := I1.hok.fresh (Nat.le_refl _)
  refine ⟨by rw [← r.length]; exact z, .ref s1.heap.objs.size, upd H1 s1.heap.objs.size (.lst xs), I1.laid (t' := s1.toks) (fun b u e => Heap.get?_push_of_some _ e) (Nat.le_refl _) ?_, rfl, q _ (Nat.ne_of_gt I1.big) nf⟩
  exact ⟨z, us, 0, r, Heap.get?_push_size _ rfl⟩
/-- list(a tuple), likewise -/
def rListT1 (K : PySem.W.Frag) : List V → Hp → VK → Prop := fun xs H Q => ∃ p ys, xs = [.ref p] ∧ SqT K H p ys ∧ ∀ l, l ≠ sysModules → H l = none → Q (.ref l) (upd H l (.lst ys))
theorem cr_listT1 : CallR X (.type "list") (rListT1 X.K) := by
  intro pins s σ H xs us Q I r h
  obtain ⟨p, ys, rfl, hq, q⟩ := h
  obtain ⟨u, rfl, rx⟩ := vals1 r
  cases rx
  obtain ⟨its, r', ⟨o, ho, hc, n, hd⟩, hz⟩ := I.tuple hq
  have hl := r'.length
  refine call_list_seq p (.inr rfl) ho hc hd ?_ (by rw [List.size_toArray]; omega)
  intro h' c' kp e
  refine ⟨.ref s.heap.objs.size, _, I.laid (t' := s.toks) kp (Nat.le_refl _) (show ObjOk X.prog X.w _ h' _ (.lst ys) from ⟨hz, its, c', r', e⟩), rfl, q _ (Nat.ne_of_gt I.big) (I.hok.fresh (Nat.le_refl _))⟩
/-- == of a tuple of at most one item with a tuple of one text -/
def rEqT1 (K : PySem.W.Frag) : R2 := fun x y H Q => ∃ a b xs z, x = .ref a ∧ y = .ref b ∧ SqT K H a xs ∧ SqT K H b [.str z] ∧
  ((xs = [] ∧ Q (.bl false) H) ∨ ∃ v d p, xs = [v] ∧ Dd p H v d ∧ Q (.bl (isT z d)) H)
theorem all0 (z : Value) : ((List.range (min (#[] : Array Value).size #[z].size)).all (fun _ => true) && (#[] : Array Value).size == #[z].size) = false := rfl
theorem all1 (y z : Value) (b : Bool) : ((List.range (min #[y].size #[z].size)).all (fun _ => b) && #[y].size == #[z].size) = b := by
  show ((b && true) && true) = b
  cases b <;> rfl
theorem rc_t0 {A : Around} {s : Shared} {a b : Addr} {z : Value} (hu : A.units < cLine) (t1 : s.heap.IsTuple a #[]) (t2 : s.heap.IsTuple b #[z]) : SeqAt.RcAt A s (.ref a) (.ref b) false := by
  have R := SeqAt.RcAt.tuples (e := fun _ => true) t1 t2 hu (fun j h1 _ => absurd h1 (Nat.not_lt_zero _))
  rw [all0] at R
  exact R
theorem rc_t1 {A : Around} {s : Shared} {a b : Addr} {y z : Value} {k : Bool} (hu : A.units < cLine) (t1 : s.heap.IsTuple a #[y]) (t2 : s.heap.IsTuple b #[z]) (he : SeqAt.EqAt A.in1 s y z k) : SeqAt.RcAt A s (.ref a) (.ref b) k := by
  have R := SeqAt.RcAt.tuples (e := fun _ => k) t1 t2 hu (fun j h1 h2 => by
    have hj : j = 0 := by
      have : j < 1 := h1
      omega
    subst hj
    exact he)
  rw [all1] at R
  exact R
theorem vals_nil {us : List Value} (r : Vals [] us) : us = [] := by
  cases r
  rfl
theorem vals_one {v : V} {us : List Value} (r : Vals [v] us) : ∃ u, us = [u] ∧ RelV v u := by
  obtain ⟨u, e, q⟩ := vals1 r
  exact ⟨u, e, q⟩
theorem op_eqT1 (hu : X.A.units + 64 < cLine) : OpR X (compareOp .Eq) (rEqT1 X.K) := by
  intro pins s σ H x y v u Q I rx ry h
  obtain ⟨a, b, xs, z, rfl, rfl, ha, hb, h⟩ := h
  cases rx
  cases ry
  obtain ⟨its, r1, t1, _⟩ := I.tuple ha
  obtain ⟨jts, r2, t2, _⟩ := I.tuple hb
  obtain ⟨w, rfl, hw⟩ := vals_one r2
  obtain ⟨tk, rfl⟩ := hw
  have hu1 : X.A.units < cLine := by omega
  rcases h with ⟨rfl, q⟩ | ⟨v, d, p, rfl, hd, q⟩
  · cases vals_nil r1
    exact rc_t0 hu1 t1 t2 X.prog X.w X.xe _ ⟨.bl false, H, I, rfl, q⟩
  · obtain ⟨w, rfl, hw⟩ := vals_one r1
    exact rc_t1 hu1 t1 t2 (eqAt_dS I hd hw (by show X.A.units + 1 < cLine; omega)) X.prog X.w X.xe _ ⟨.bl (isT z d), H, I, rfl, q⟩
end
section
variable {K : PySem.W.Frag} {p : Option Sx} {H H' : Hp} {v : V} {d : PyData}
def tyD : PyData → String
  | .none => "NoneType"
  | .bool _ => "bool"
  | .int _ => "int"
  | .str _ => "str"
  | .list _ => "list"
  | .tuple _ => "tuple"
  | .dict _ => "dict"
theorem Dd.ty (h : Dd p H v d) : TyX K H v (.type (tyD d)) := by
  cases h with
  | non => exact .base .non
  | bl b => exact .base (.bl b)
  | int i => exact .base (.int i)
  | str x => exact .base (.str x)
  | lst n m h r => exact .base (.lst h)
  | tup n h r => exact .base (.tup h)
  | dk0 n h => exact .base (.dK h)
  | dk1 n h r => exact .base (.dK h)
def isStr : PyData → Bool
  | .str _ => true
  | _ => false
def isTup : PyData → Bool
  | .tuple _ => true
  | _ => false
theorem kit_str (d : PyData) : kitB (tyD d) "str" = some (isStr d) := by
  cases d with
  | none => show kitB "NoneType" "str" = some false; decide +kernel
  | bool b => show kitB "bool" "str" = some false; decide +kernel
  | int i => show kitB "int" "str" = some false; decide +kernel
  | str x => show kitB "str" "str" = some true; decide +kernel
  | list xs => show kitB "list" "str" = some false; decide +kernel
  | tuple xs => show kitB "tuple" "str" = some false; decide +kernel
  | dict kvs => show kitB "dict" "str" = some false; decide +kernel
theorem kit_tup (d : PyData) : kitB (tyD d) "tuple" = some (isTup d) := by
  cases d with
  | none => show kitB "NoneType" "tuple" = some false; decide +kernel
  | bool b => show kitB "bool" "tuple" = some false; decide +kernel
  | int i => show kitB "int" "tuple" = some false; decide +kernel
  | str x => show kitB "str" "tuple" = some false; decide +kernel
  | list xs => show kitB "list" "tuple" = some false; decide +kernel
  | tuple xs => show kitB "tuple" "tuple" = some true; decide +kernel
  | dict kvs => show kitB "dict" "tuple" = some false; decide +kernel
theorem Dd.isiS (h : Dd p H v d) : RC (rIsi K) [v, .ty "str"] H (.bl (isStr d)) := fun H1 e _ q => ⟨v, _, _, _, _, rfl, .ty _, (h.up e).ty, kit_ty (kit_str d), q H1 (Ex.refl _)⟩
theorem Dd.isiT (h : Dd p H v d) : RC (rIsi K) [v, .ty "tuple"] H (.bl (isTup d)) := fun H1 e _ q => ⟨v, _, _, _, _, rfl, .ty _, (h.up e).ty, kit_ty (kit_tup d), q H1 (Ex.refl _)⟩
end
end Es
namespace Es
open PySem PySem.Spec PyProof.Rows L2 Evl
/-! making data while a pot at p is drawn from: k draws at the most -/
/-- the pot, and that the lists are there -/
def PotS (S : Sx) (H : Hp) (c : Int) : Prop := Pot H S.p c ∧ ∀ a, S.m a → ∃ xs, H a = some (.lst xs)
theorem PotS.sn {S : Sx} {H : Hp} {c : Int} (h : PotS S H c) {a : Addr} (n : H a = none) : ¬ out (some S) a := by
  rintro (z | z)
  · exact h.1.ne n z
  · obtain ⟨xs, e⟩ := h.2 a z
    rw [n] at e
    cases e
theorem PotS.ne {S : Sx} {H : Hp} {c : Int} (h : PotS S H c) {a : Addr} (n : H a = none) : a ≠ S.p := h.1.ne n
theorem PotS.more {S : Sx} {H : Hp} {c d : Int} (h : PotS S H c) (e : c ≤ d) : PotS S H d := ⟨h.1.more e, h.2⟩
theorem PotS.up {S : Sx} {H H' : Hp} {c : Int} (h : PotS S H c) (e : Ex H H') : PotS S H' c := ⟨h.1.up e, fun a z => by
  obtain ⟨xs, y⟩ := h.2 a z
  exact ⟨xs, e _ _ y⟩⟩
theorem PotS.step {S : Sx} {H H' : Hp} {c d : Int} (h : PotS S H c) (e : Xp S.p H H') (k : Pot H' S.p d) : PotS S H' d := ⟨k, fun a z => by
  obtain ⟨xs, y⟩ := h.2 a z
  by_cases ha : a = S.p
  · subst ha
    obtain ⟨g, s0, c0, hp, _⟩ := k
    exact ⟨_, hp⟩
  · exact ⟨xs, e _ _ ha y⟩⟩
section
variable (S : Sx)
def EvP (k : Int) (te : TE) (σ : L2.St) (H : Hp) (D : PyData → Prop) : Prop := ∀ H1 c, Xp S.p H H1 → PotS S H1 c → 0 ≤ c → c + k ≤ 90000 → ∀ Q : VK, (∀ v d H2, Xp S.p H1 H2 → PotS S H2 (c + k) → Dd (some S) H2 v d → D d → Q v H2) → te σ H1 Q
def EvPA (k : Int) (ta : TA) (σ : L2.St) (H : Hp) (D : List PyData → Prop) : Prop := ∀ H1 c, Xp S.p H H1 → PotS S H1 c → 0 ≤ c → c + k ≤ 90000 → ∀ Q : List V → Hp → Prop, (∀ vs ds H2, Xp S.p H1 H2 → PotS S H2 (c + k) → DdAll (some S) H2 vs ds → D ds → Q vs H2) → ta σ H1 Q
/-- a list of data, to be read -/
def EvPL (k : Int) (te : TE) (σ : L2.St) (H : Hp) (D : List PyData → Prop) : Prop := ∀ H1 c, Xp S.p H H1 → PotS S H1 c → 0 ≤ c → c + k ≤ 90000 → ∀ Q : VK, (∀ l vs ds H2, Xp S.p H1 H2 → PotS S H2 (c + k) → l ≠ S.p → H2 l = some (.lst vs) → DdAll (some S) H2 vs ds → D ds → Q (.ref l) H2) → te σ H1 Q
end
/-- a tuple of small items -/
def Tu (n : Nat) (d : PyData) : Prop := ∃ ds, d = .tuple ds ∧ Fits n ds
theorem Tu.fit {n : Nat} {d : PyData} (h : Tu n d) : Fit (n + 1) d := by
  obtain ⟨ds, rfl, h⟩ := h
  exact h.tup
def AllFit (n : Nat) (ds : List PyData) : Prop := ∀ d ∈ ds, Fit n d
theorem AllFit.nil {n : Nat} : AllFit n [] := fun _ h => nomatch h
theorem AllFit.cons {n : Nat} {d : PyData} {ds : List PyData} (h : Fit n d) (k : AllFit n ds) : AllFit n (d :: ds) := fun x hx => by
  rcases List.mem_cons.mp hx with e | e
  · rw [e]
    exact h
  · exact k x e
theorem AllFit.app {n : Nat} {ds es : List PyData} (h : AllFit n ds) (k : AllFit n es) : AllFit n (ds ++ es) := fun x hx => by
  rcases List.mem_append.mp hx with e | e
  · exact h x e
  · exact k x e
theorem Fits.app : ∀ {n m : Nat} {ds es : List PyData}, Fits n ds → Fits m es → Fits (n + m) (ds ++ es) := by
  intro n m ds es h k
  obtain ⟨b1, b2, b3, b4⟩ := k
  have : ∀ ds : List PyData, PyData.showableAll (ds ++ es) = (PyData.showableAll ds && PyData.showableAll es) ∧ PyData.leavesShortAll 30 (ds ++ es) = (PyData.leavesShortAll 30 ds && PyData.leavesShortAll 30 es) ∧
      PyData.bulkAll (ds ++ es) = PyData.bulkAll ds + PyData.bulkAll es ∧ PyData.depthAll (ds ++ es) = max (PyData.depthAll ds) (PyData.depthAll es) := by
    intro ds
    induction ds with
    | nil =>
      refine ⟨rfl, rfl, ?_, ?_⟩
      · show PyData.bulkAll es = 0 + PyData.bulkAll es
        omega
      · show PyData.depthAll es = max 0 (PyData.depthAll es)
        omega
    | cons x r ih =>
      obtain ⟨i1, i2, i3, i4⟩ := ih
      refine ⟨?_, ?_, ?_, ?_⟩
      · show (x.showable && PyData.showableAll (r ++ es)) = (x.showable && PyData.showableAll r && PyData.showableAll es)
        rw [i1, Bool.and_assoc]
      · show (x.leavesShort 30 && PyData.leavesShortAll 30 (r ++ es)) = (x.leavesShort 30 && PyData.leavesShortAll 30 r && PyData.leavesShortAll 30 es)
        rw [i2, Bool.and_assoc]
      · show x.bulk + 1 + PyData.bulkAll (r ++ es) = x.bulk + 1 + PyData.bulkAll r + PyData.bulkAll es
        omega
      · show max x.depth (PyData.depthAll (r ++ es)) = max (max x.depth (PyData.depthAll r)) (PyData.depthAll es)
        omega
  obtain ⟨i1, i2, i3, i4⟩ := this ds
  obtain ⟨a1, a2, a3, a4⟩ := h
  exact ⟨by rw [i1, a1, b1]; rfl, by rw [i2, a2, b2]; rfl, by omega, by omega⟩
theorem Fits.sub {n : Nat} {ds : List PyData} (h : Fits n ds) : (∀ i, Fits n (ds.drop i)) ∧ ∀ i, Fits n (ds.take i) := by
  induction ds generalizing n with
  | nil => exact ⟨fun i => by rw [List.drop_nil]; exact h, fun i => by rw [List.take_nil]; exact h⟩
  | cons x r ih =>
    obtain ⟨a1, a2, a3, a4⟩ := h
    have a1' : (x.showable && PyData.showableAll r) = true := a1
    have a2' : (x.leavesShort 30 && PyData.leavesShortAll 30 r) = true := a2
    rw [Bool.and_eq_true] at a1' a2'
    have a3' : x.bulk + 1 + PyData.bulkAll r ≤ 8 * n := a3
    have a4' : max x.depth (PyData.depthAll r) ≤ n := a4
    have k : Fits n r := ⟨a1'.2, a2'.2, by omega, by omega⟩
    refine ⟨fun i => ?_, fun i => ?_⟩
    · cases i with
      | zero => exact ⟨a1, a2, a3, a4⟩
      | succ i => exact (ih k).1 i
    · cases i with
      | zero => exact ⟨rfl, rfl, Nat.zero_le _, Nat.zero_le _⟩
      | succ i =>
        obtain ⟨c1, c2, c3, c4⟩ := (ih (n := PyData.bulkAll r + PyData.depthAll r) ⟨a1'.2, a2'.2, by omega, by omega⟩).2 i
        have c3' : PyData.bulkAll (r.take i) ≤ PyData.bulkAll r ∧ PyData.depthAll (r.take i) ≤ PyData.depthAll r := by
          clear ih k a1 a2 a3 a4 a1' a2' a3' a4' c1 c2 c3 c4
          induction r generalizing i with
          | nil =>
            rw [List.take_nil]
            exact ⟨Nat.le_refl _, Nat.le_refl _⟩
          | cons y s ih2 =>
            cases i with
            | zero => exact ⟨Nat.zero_le _, Nat.zero_le _⟩
            | succ i =>
              have := ih2 i
              refine ⟨?_, ?_⟩
              · show y.bulk + 1 + PyData.bulkAll (s.take i) ≤ y.bulk + 1 + PyData.bulkAll s
                omega
              · show max y.depth (PyData.depthAll (s.take i)) ≤ max y.depth (PyData.depthAll s)
                omega
        refine ⟨?_, ?_, ?_, ?_⟩
        · show (x.showable && PyData.showableAll (r.take i)) = true
          rw [a1'.1, c1]
          rfl
        · show (x.leavesShort 30 && PyData.leavesShortAll 30 (r.take i)) = true
          rw [a2'.1, c2]
          rfl
        · show x.bulk + 1 + PyData.bulkAll (r.take i) ≤ 8 * n
          omega
        · show max x.depth (PyData.depthAll (r.take i)) ≤ n
          omega
section
variable {S : Sx} {K : PySem.W.Frag} {σ : L2.St} {H : Hp} {te tf : TE} {ta : TA} {k j : Int} {D E : PyData → Prop} {L M : List PyData → Prop}
theorem evp_imp (h : EvP S k te σ H D) (hi : ∀ d, D d → E d) : EvP S k te σ H E := fun H1 c x P c0 c1 Q q => h H1 c x P c0 c1 Q fun v d H2 x2 P2 hd hD => q v d H2 x2 P2 hd (hi d hD)
theorem evp_xp {H' : Hp} (h : EvP S k te σ H D) (e : Xp S.p H H') : EvP S k te σ H' D := fun H1 c x P c0 c1 Q q => h H1 c (e.trans x) P c0 c1 Q q
theorem evp_var {i : Nat} {v : V} {d : PyData} (h : σ[i]? = some (some v)) (hd : Dd (some S) H v d) (hD : D d) : EvP S 0 (tVar i) σ H D := fun H1 c x P c0 c1 Q q => ⟨v, h, q v d H1 (Xp.refl _ _) (P.more (by omega)) (hd.xp x) hD⟩
theorem evp_str {z : Str} (hD : D (.str z)) : EvP S 0 (tC (.str z)) σ H D := fun H1 c x P c0 c1 Q q => q _ _ H1 (Xp.refl _ _) (P.more (by omega)) (.str z) hD
theorem evp_int {z : Int} (hD : D (.int z)) : EvP S 0 (tC (.int z)) σ H D := fun H1 c x P c0 c1 Q q => q _ _ H1 (Xp.refl _ _) (P.more (by omega)) (.int z) hD
theorem evp_bl {z : Bool} (hD : D (.bool z)) : EvP S 0 (tC (.bl z)) σ H D := fun H1 c x P c0 c1 Q q => q _ _ H1 (Xp.refl _ _) (P.more (by omega)) (.bl z) hD
theorem evp_non (hD : D .none) : EvP S 0 (tC .non) σ H D := fun H1 c x P c0 c1 Q q => q _ _ H1 (Xp.refl _ _) (P.more (by omega)) .non hD
theorem evpa_nil (h : L []) : EvPA S 0 tNil σ H L := fun H1 c x P c0 c1 Q q => q [] [] H1 (Xp.refl _ _) (P.more (by omega)) .nil h
theorem evpa_cons (h : EvP S k te σ H D) (r : EvPA S j ta σ H L) (hk : 0 ≤ k) (hj : 0 ≤ j) (hL : ∀ d ds, D d → L ds → M (d :: ds)) : EvPA S (k + j) (tCons te ta) σ H M := by
  intro H1 c x P c0 c1 Q q
  refine h H1 c x P c0 (by omega) _ fun v d H2 x2 P2 hd hD => ?_
  exact r H2 (c + k) (x.trans x2) P2 (by omega) (by omega) _ fun vs ds H3 x3 P3 hds hL' => q _ _ H3 (x2.trans x3) (P3.more (by omega)) (.cons (hd.xp x3) hds) (hL d ds hD hL')
theorem evpa_c0 (h : EvP S 0 te σ H D) (r : EvPA S j ta σ H L) (hj : 0 ≤ j) (hL : ∀ d ds, D d → L ds → M (d :: ds)) : EvPA S j (tCons te ta) σ H M := by
  have := evpa_cons h r (by decide) hj hL
  rw [Int.zero_add] at this
  exact this
/-- items of a tuple, their sizes added up -/
theorem evpa_t {n m : Nat} (h : EvP S 0 te σ H (Fit n)) (r : EvPA S j ta σ H (Fits m)) (hj : 0 ≤ j) : EvPA S j (tCons te ta) σ H (Fits (n + 1 + m)) := evpa_c0 h r hj fun _ _ a b => Fits.cons a b
theorem evpa_tk {n m : Nat} (h : EvP S k te σ H (Fit n)) (r : EvPA S j ta σ H (Fits m)) (hk : 0 ≤ k) (hj : 0 ≤ j) : EvPA S (k + j) (tCons te ta) σ H (Fits (n + 1 + m)) := evpa_cons h r hk hj fun _ _ a b => Fits.cons a b
theorem evpa_l {n : Nat} (h : EvP S 0 te σ H (Fit n)) (r : EvPA S j ta σ H (AllFit n)) (hj : 0 ≤ j) : EvPA S j (tCons te ta) σ H (AllFit n) := evpa_c0 h r hj fun _ _ a b => AllFit.cons a b
theorem evpa_lk {n : Nat} (h : EvP S k te σ H (Fit n)) (r : EvPA S j ta σ H (AllFit n)) (hk : 0 ≤ k) (hj : 0 ≤ j) : EvPA S (k + j) (tCons te ta) σ H (AllFit n) := evpa_cons h r hk hj fun _ _ a b => AllFit.cons a b
theorem Fits.length {n : Nat} {ds : List PyData} (h : Fits n ds) : ds.length ≤ 8 * n := by
  have h3 := h.2.2.1
  clear h
  generalize 8 * n = m at h3
  clear n
  induction ds generalizing m with
  | nil => exact Nat.zero_le _
  | cons y r ih =>
    have h3' : y.bulk + 1 + PyData.bulkAll r ≤ m := h3
    have := ih (m - 1) (by omega)
    show r.length + 1 ≤ m
    omega
theorem evp_tup {n : Nat} (h : EvPA S k ta σ H (Fits n)) (hn : n ≤ 10000) : EvP S k (tTup ta) σ H (Tu n) := by
  intro H1 c x P c0 c1 Q q
  refine h H1 c x P c0 c1 _ fun vs ds H2 x2 P2 hds hL => ⟨?_, fun a na => ?_⟩
  · have l1 := hds.length
    have := hL.length
    exact sz_of (by omega)
  · have e := Ex.new (o := .tup vs) na
    exact q _ _ _ (x2.trans (Xp.ex e)) (P2.up e) (.tup (P2.sn na) upd_same (hds.up e)) ⟨ds, rfl, hL⟩
theorem evp_tup' {n m : Nat} (h : EvPA S k ta σ H (Fits n)) (hn : n + 1 ≤ m) (hm : m ≤ 10000) : EvP S k (tTup ta) σ H (Fit m) := evp_imp (evp_tup h (by omega)) fun d hd => hd.fit.more hn
theorem evp_cat {n m : Nat} (h : EvP S k te σ H (Tu n)) (r : EvP S j tf σ H (Tu m)) (hk : 0 ≤ k) (hj : 0 ≤ j) (hn : n + m ≤ 10000) : EvP S (k + j) (tOp (rCatA K) te tf) σ H (Tu (n + m)) := by
  intro H1 c x P c0 c1 Q q
  refine h H1 c x P c0 (by omega) _ fun v d H2 x2 P2 hd hD => ?_
  refine r H2 (c + k) (x.trans x2) P2 (by omega) (by omega) _ fun u e H3 x3 P3 he hE => ?_
  obtain ⟨ds, rfl, f1⟩ := hD
  obtain ⟨es, rfl, f2⟩ := hE
  have hd3 := hd.xp x3
  have l1 := f1.length
  have l2 := f2.length
  cases hd3 with
  | @tup a xs _ na ha hxs =>
    cases he with
    | @tup b ys _ nb hb hys =>
      have m1 := hxs.length
      have m2 := hys.length
      refine ⟨a, b, xs, ys, rfl, rfl, st_of ha, st_of hb, sz_of (by omega), fun z => ?_, fun _ z => ?_, fun _ _ t nt => ?_⟩
      · subst z
        cases hxs
        exact q _ _ H3 (x2.trans x3) (P3.more (by omega)) (.tup nb hb hys) ⟨es, rfl, f2.more (by omega)⟩
      · subst z
        cases hys
        exact q _ _ H3 (x2.trans x3) (P3.more (by omega)) (.tup na ha hxs) ⟨ds, rfl, f1.more (by omega)⟩
      · have e := Ex.new (o := .tup (xs ++ ys)) nt
        exact q _ _ _ ((x2.trans x3).trans (Xp.ex e)) ((P3.up e).more (by omega)) (.tup (P3.sn nt) upd_same ((hxs.append hys).up e)) ⟨_, rfl, f1.app f2⟩
theorem evp_cat0 {n m : Nat} (h : EvP S 0 te σ H (Tu n)) (r : EvP S 0 tf σ H (Tu m)) (hn : n + m ≤ 10000) : EvP S 0 (tOp (rCatA K) te tf) σ H (Tu (n + m)) := evp_cat h r (by decide) (by decide) hn
/-- t[:i], t[i:] of a tuple at a name -/
theorem evp_cutL {i : Nat} {a : Addr} {xs : List V} {ds : List PyData} {n : Nat} {tl : TO} {u : Int} (h : σ[i]? = some (some (.ref a))) (hd : Dd (some S) H (.ref a) (.tuple ds)) (f : Fits n ds) (hu : 0 ≤ u)
    (ho : ∀ H1 (Q : Option Int → Hp → Prop), Q (some u) H1 → tl σ H1 Q) : EvP S 0 (tSl (rSlA K) (tVar i) tNoPart tl) σ H (Tu n) := by
  intro H1 c x P c0 c1 Q q
  have hd1 := hd.xp x
  cases hd1 with
  | @tup _ xs _ na ha hxs =>
    refine ⟨.ref a, h, ho H1 _ ⟨a, xs, rfl, st_of ha, fun _ => ?_, fun _ t nt => ?_⟩⟩
    · exact q _ _ H1 (Xp.refl _ _) (P.more (by omega)) (.tup na ha hxs) ⟨ds, rfl, f⟩
    · have e := Ex.new (o := .tup (cutV xs none (some u))) nt
      have hc : DdAll (some S) H1 (cutV xs none (some u)) (ds.take (min u.toNat ds.length)) := by
        have m1 := hxs.length
        unfold cutV
        rw [HT.sIx_none, List.drop_zero, Nat.sub_zero, show (some u) = some ((u.toNat : Nat) : Int) by rw [Int.toNat_of_nonneg hu], HT.sIx_nat, m1]
        exact hxs.take _
      exact q _ _ _ (Xp.ex e) ((P.up e).more (by omega)) (.tup (P.sn nt) upd_same (hc.up e)) ⟨_, rfl, f.sub.2 _⟩
theorem evp_cutR {i : Nat} {a : Addr} {xs : List V} {ds : List PyData} {n : Nat} {tl : TO} {u : Int} (h : σ[i]? = some (some (.ref a))) (hd : Dd (some S) H (.ref a) (.tuple ds)) (f : Fits n ds) (hu : 0 ≤ u)
    (ho : ∀ H1 (Q : Option Int → Hp → Prop), Q (some u) H1 → tl σ H1 Q) : EvP S 0 (tSl (rSlA K) (tVar i) tl tNoPart) σ H (Tu n) := by
  intro H1 c x P c0 c1 Q q
  have hd1 := hd.xp x
  cases hd1 with
  | @tup _ xs _ na ha hxs =>
    refine ⟨.ref a, h, ho H1 _ ⟨a, xs, rfl, st_of ha, fun _ => ?_, fun _ t nt => ?_⟩⟩
    · exact q _ _ H1 (Xp.refl _ _) (P.more (by omega)) (.tup na ha hxs) ⟨ds, rfl, f⟩
    · have e := Ex.new (o := .tup (cutV xs (some u) none)) nt
      have hc : DdAll (some S) H1 (cutV xs (some u) none) (ds.drop (min u.toNat ds.length)) := by
        have m1 := hxs.length
        unfold cutV
        rw [HT.sIx_none, show (some u) = some ((u.toNat : Nat) : Int) by rw [Int.toNat_of_nonneg hu], HT.sIx_nat, List.take_of_length_le (by rw [List.length_drop]; omega), m1]
        exact hxs.drop _
      exact q _ _ _ (Xp.ex e) ((P.up e).more (by omega)) (.tup (P.sn nt) upd_same (hc.up e)) ⟨_, rfl, f.sub.1 _⟩
/-- lists of data -/
theorem evl_lst {N : Nat} (h : EvPA S k ta σ H (fun ds => L ds ∧ ds.length = N)) (hN : N ≤ 10000) : EvPL S k (tLst ta) σ H (fun ds => L ds ∧ ds.length = N) := by
  intro H1 c x P c0 c1 Q q
  refine h H1 c x P c0 c1 _ fun vs ds H2 x2 P2 hds hL => ⟨?_, fun l nl => ?_⟩
  · have := hds.length
    have := hL.2
    exact sz_of (by omega)
  · have e := Ex.new (o := .lst vs) nl
    exact q l vs ds _ (x2.trans (Xp.ex e)) (P2.up e) (P2.ne nl) upd_same (hds.up e) hL
theorem evl_var {i : Nat} {l : Addr} {vs : List V} {ds : List PyData} (h : σ[i]? = some (some (.ref l))) (nl : l ≠ S.p) (hl : H l = some (.lst vs)) (hd : DdAll (some S) H vs ds) (hL : L ds) : EvPL S 0 (tVar i) σ H L :=
  fun H1 c x P c0 c1 Q q => ⟨.ref l, h, q l vs ds H1 (Xp.refl _ _) (P.more (by omega)) nl (x _ _ nl hl) (hd.xp x) hL⟩
theorem evl_cat {A B : Nat} (h : EvPL S k te σ H (fun ds => L ds ∧ ds.length = A)) (r : EvPL S j tf σ H (fun ds => L ds ∧ ds.length = B)) (hk : 0 ≤ k) (hj : 0 ≤ j) (hn : A + B ≤ 10000) (hL : ∀ ds es, L ds → L es → L (ds ++ es)) :
    EvPL S (k + j) (tOp rCat te tf) σ H (fun ds => L ds ∧ ds.length = A + B) := by
  intro H1 c x P c0 c1 Q q
  refine h H1 c x P c0 (by omega) _ fun l vs ds H2 x2 P2 nl hl hds hD => ?_
  refine r H2 (c + k) (x.trans x2) P2 (by omega) (by omega) _ fun m ws es H3 x3 P3 nm hm hes hE => ?_
  have l1 := hds.length
  have l2 := hes.length
  have d1 := hD.2
  have d2 := hE.2
  refine ⟨l, m, vs, ws, rfl, rfl, x3 _ _ nl hl, hm, sz_of (by omega), fun a na => ?_⟩
  have e := Ex.new (o := .lst (vs ++ ws)) na
  refine q a _ (ds ++ es) _ ((x2.trans x3).trans (Xp.ex e)) ((P3.up e).more (by omega)) (P3.ne na) upd_same (((hds.xp x3).append hes).up e) ⟨hL _ _ hD.1 hE.1, ?_⟩
  rw [List.length_append]
  omega
theorem evpa_n {N : Nat} (h : EvPA S k ta σ H (AllFit N)) : EvPA S k ta σ H (AllFit N) := h
/-- the same with the number of items told -/
theorem evpan_nil {n : Nat} : EvPA S 0 tNil σ H (fun ds => AllFit n ds ∧ ds.length = 0) := evpa_nil ⟨.nil, rfl⟩
theorem evpan {n m : Nat} (h : EvP S 0 te σ H (Fit n)) (r : EvPA S j ta σ H (fun ds => AllFit n ds ∧ ds.length = m)) (hj : 0 ≤ j) : EvPA S j (tCons te ta) σ H (fun ds => AllFit n ds ∧ ds.length = m + 1) :=
  evpa_c0 h r hj fun _ _ a b => ⟨.cons a b.1, congrArg Nat.succ b.2⟩
theorem evpank {n m : Nat} (h : EvP S k te σ H (Fit n)) (r : EvPA S j ta σ H (fun ds => AllFit n ds ∧ ds.length = m)) (hk : 0 ≤ k) (hj : 0 ≤ j) : EvPA S (k + j) (tCons te ta) σ H (fun ds => AllFit n ds ∧ ds.length = m + 1) :=
  evpa_cons h r hk hj fun _ _ a b => ⟨.cons a b.1, congrArg Nat.succ b.2⟩
theorem evp_lst1 {n : Nat} (h : EvPA S k ta σ H (Fits n)) (hn : n ≤ 10000) : EvP S k (tLst1 ta) σ H (Fit (n + 1)) := by
  intro H1 c x P c0 c1 Q q
  refine h H1 c x P c0 c1 _ fun vs ds H2 x2 P2 hds hL => ⟨?_, fun a ns na => ?_⟩
  · have l1 := hds.length
    have := hL.length
    exact sz_of (by omega)
  · have e := Ex.new (o := .lst vs) na
    exact q _ _ _ (x2.trans (Xp.ex e)) (P2.up e) (.lst (P2.sn na) ns upd_same (hds.up e)) hL.lst
theorem evp_dk0 : EvP S 0 tDNewK σ H (Fit 1) := fun H1 c x P c0 c1 Q q a na => by
  have e := Ex.new (o := .dK []) na
  exact q _ _ _ (Xp.ex e) ((P.up e).more (by omega)) (.dk0 (P.sn na) upd_same) fit_dk0
theorem evp_dk1 {n i : Nat} {z : Str} {v : V} {d : PyData} (h : σ[i]? = some (some v)) (hd : Dd (some S) H v d) (hf : Fit n d) (hz : (z.cps.toList.all fun c => decide (c < 16 ^ 8)) = true) (hl : z.length ≤ 10) : EvP S 0 (tDisp [(tC (.str z), tVar i)]) σ H (Fit (n + 13)) := by
  intro H1 c x P c0 c1 Q q a na
  refine ⟨v, h, upd_same, [(Sum.inr z, v)], rfl, by show 1 ≤ 15; decide, ?_⟩
  have e := Ex.mut (o := .dK (mergeK [] [(Sum.inr z, v)])) (Ex.new (o := .dK []) na) na
  exact q _ _ _ (Xp.ex e) ((P.up e).more (by omega)) (.dk1 (P.sn na) upd_same ((hd.xp x).up e)) (fit_dk1 hz hl hf)
theorem evp_neg {i : Int} (hD : D (.int (-i))) : EvP S 0 (tUn (rU fun i => .int (-i)) (tC (.int i))) σ H D := fun H1 c x P c0 c1 Q q => ⟨i, rfl, q _ _ H1 (Xp.refl _ _) (P.more (by omega)) (.int _) hD⟩
theorem DdAll.mem : ∀ {vs : List V} {ds : List PyData} {v : V}, DdAll (some S) H vs ds → v ∈ vs → ∃ d ∈ ds, Dd (some S) H v d
  | _, _, _, .cons h r, hv => by
    rcases List.mem_cons.mp hv with e | e
    · subst e
      exact ⟨_, List.mem_cons_self .., h⟩
    · obtain ⟨d, a, b⟩ := DdAll.mem r e
      exact ⟨d, List.mem_cons_of_mem _ a, b⟩
theorem evp_listT {n i : Nat} {a : Addr} {ds : List PyData} (h : σ[i]? = some (some (.ref a))) (hd : Dd (some S) H (.ref a) (.tuple ds)) (hf : Fits n ds) : EvP S 0 (tCB (rListT1 K) (tCons (tVar i) tNil)) σ H (Fit (n + 1)) := by
  intro H1 c x P c0 c1 Q q
  have hd1 := hd.xp x
  cases hd1 with
  | @tup _ xs _ na ha hxs =>
    refine ⟨.ref a, h, a, xs, rfl, st_of ha, fun l ns nl => ?_⟩
    have e := Ex.new (o := .lst xs) nl
    exact q _ _ _ (Xp.ex e) ((P.up e).more (by omega)) (.lst (P.sn nl) ns upd_same (hxs.up e)) hf.lst
theorem qp_asg {F : Ends} {tz : TS} {i : Nat} (h : te σ H fun v H1 => tz F (σ.set i (some v)) H1) : tSeq (tAsg te (gName i)) tz F σ H := h
theorem sp_asg {F : Ends} {i : Nat} (h : te σ H fun v H1 => F.nx (σ.set i (some v)) H1) : tAsg te (gName i) F σ H := h
theorem op_of {r : R2} {Q : VK} (h : te σ H fun x H1 => tf σ H1 fun y H2 => r x y H2 Q) : tOp r te tf σ H Q := h
theorem cons_of {Q : List V → Hp → Prop} (h : te σ H fun x H1 => ta σ H1 fun xs H2 => Q (x :: xs) H2) : tCons te ta σ H Q := h
theorem call_of {sp : Sp} {dvs : List V} {E : XK} {Q : VK} (h : ta σ H fun vs H1 => sp (vs ++ dvs) H1 Q E) : tCall sp dvs E ta σ H Q := h
end
end Es
section
open PySem PySem.Sem PySem.Builtin PySem.Builtin.List
/-- a list grows by a tuple's items -/
theorem PySem.es_ext (l : Addr) (its : Array Value) (n : Nat) (b : Addr) (jts : Array Value) (n2 : Nat) (dd : Option Addr) (sl : Array (Option Value)) (hs0 : ¬(!its.isEmpty && listTooLong (its.size + jts.size)) = true)
    (hs1 : its.size ≤ sizeLine) (hs2 : its.size + jts.size ≤ sizeLine + 1) :
    Meets (Builtin.«list.extend» ⟨[.ref l, .ref b], []⟩) (fun _ R s => s.heap.get? l = some { cls := .type "list", dict := none, data := .seq its n, slots := #[] } ∧
      s.heap.get? b = some { cls := .type "tuple", dict := dd, data := .seq jts n2, slots := sl } ∧ R (.ok (.ret Value.none)) { s with heap := s.heap.update l (Obj.mapSeq fun x => x ++ jts), toks := s.toks }) :=
  .of_wp fun prog w A R s h => by
    obtain ⟨hp, g, d, tk, os⟩ := s
    obtain ⟨hl, hb, h⟩ := h
    have f1 := F.sub_tuple_tuple
    have f2 := F.sub_list_list
    have f3 := F.sub_tuple_list
    have f4 := F.sub_list_tuple
    have hz' : (its ++ jts).size ≤ sizeLine + 1 := by
      rw [Array.size_append]
      exact hs2
    wp_walk using (wpAny_updateSeq hl rfl (hz := hs1) (_hz' := hz')), wpAny_loadPart' hl, wpAny_loadPart' hb
    exact ⟨_, rfl, h⟩
end
namespace Es
open PySem PySem.Spec PyProof.Rows L2 Evl
/-- expressions -/
inductive Tr where
  | leaf (k n : Str)
  | node (k : Str) (ps : List Tr)
mutual
def Tr.toD : Tr → PyData
  | .leaf k n => .tuple [.str k, .str n]
  | .node k ps => .tuple (.str k :: Tr.toDs ps)
def Tr.toDs : List Tr → List PyData
  | [] => []
  | t :: r => t.toD :: Tr.toDs r
end
mutual
/-- the leaves from left to right -/
def Tr.lv : Tr → List Tr
  | .leaf k n => [.leaf k n]
  | .node _ ps => Tr.lvs ps
def Tr.lvs : List Tr → List Tr
  | [] => []
  | t :: r => t.lv ++ Tr.lvs r
end
mutual
def Tr.dep : Tr → Nat
  | .leaf _ _ => 0
  | .node _ ps => Tr.deps ps + 1
def Tr.deps : List Tr → Nat
  | [] => 0
  | t :: r => max t.dep (Tr.deps r)
end
def leafKinds : List Str := ["token", "block"]
def nodeKinds : List Str := ["repeat", "optional", "sequence", "choice"]
def names : List Str := ["a", "num", "b", "x", "abcdefgh"]
mutual
def Tr.ok : Tr → Prop
  | .leaf k n => k ∈ leafKinds ∧ n ∈ names
  | .node k ps => k ∈ nodeKinds ∧ ps ≠ [] ∧ Tr.oks ps
def Tr.oks : List Tr → Prop
  | [] => True
  | t :: r => t.ok ∧ Tr.oks r
end
mutual
def Tr.big : Tr → Nat
  | .leaf _ _ => 15
  | .node _ ps => 9 + Tr.bigs ps
def Tr.bigs : List Tr → Nat
  | [] => 0
  | t :: r => t.big + 1 + Tr.bigs r
end
mutual
/-- where an expression stands: not at p -/
inductive TrAt (p : Addr) (H : Hp) : V → Tr → Prop
  | leaf {a : Addr} {k n : Str} : a ≠ p → H a = some (.tup [.str k, .str n]) → TrAt p H (.ref a) (.leaf k n)
  | node {a : Addr} {k : Str} {vs : List V} {ps : List Tr} : a ≠ p → H a = some (.tup (.str k :: vs)) → TrAll p H vs ps → TrAt p H (.ref a) (.node k ps)
inductive TrAll (p : Addr) (H : Hp) : List V → List Tr → Prop
  | nil : TrAll p H [] []
  | cons {v : V} {vs : List V} {t : Tr} {ts : List Tr} : TrAt p H v t → TrAll p H vs ts → TrAll p H (v :: vs) (t :: ts)
end
section
variable {p : Addr} {H H' : Hp} {K : PySem.W.Frag}
mutual
theorem TrAt.xp (e : Xp p H H') : ∀ {v : V} {t : Tr}, TrAt p H v t → TrAt p H' v t
  | _, _, .leaf n h => .leaf n (e _ _ n h)
  | _, _, .node n h r => .node n (e _ _ n h) (TrAll.xp e r)
theorem TrAll.xp (e : Xp p H H') : ∀ {vs : List V} {ts : List Tr}, TrAll p H vs ts → TrAll p H' vs ts
  | _, _, .nil => .nil
  | _, _, .cons h r => .cons (TrAt.xp e h) (TrAll.xp e r)
end
theorem TrAt.up {v : V} {t : Tr} (h : TrAt p H v t) (e : Ex H H') : TrAt p H' v t := h.xp (Xp.ex e)
theorem TrAll.up {v : List V} {t : List Tr} (h : TrAll p H v t) (e : Ex H H') : TrAll p H' v t := h.xp (Xp.ex e)
mutual
theorem TrAt.dp : ∀ {v : V} {t : Tr}, TrAt p H v t → Dp K H v t.toD
  | _, _, .leaf _ h => .tup (st_of h) (.cons (.str _) (.cons (.str _) .nil))
  | _, _, .node _ h r => .tup (st_of h) (.cons (.str _) (TrAll.dp r))
theorem TrAll.dp : ∀ {vs : List V} {ts : List Tr}, TrAll p H vs ts → DpAll K H vs (Tr.toDs ts)
  | _, _, .nil => .nil
  | _, _, .cons h r => .cons (TrAt.dp h) (TrAll.dp r)
end
mutual
theorem TrAt.mutL {l : Addr} {xs ys : List V} (hl : H l = some (.lst xs)) : ∀ {v : V} {t : Tr}, TrAt p H v t → TrAt p (upd H l (.lst ys)) v t
  | _, _, .leaf n h => .leaf n (by rw [upd_ne (ne_of h hl (by intro z; cases z))]; exact h)
  | _, _, .node n h r => .node n (by rw [upd_ne (ne_of h hl (by intro z; cases z))]; exact h) (TrAll.mutL hl r)
theorem TrAll.mutL {l : Addr} {xs ys : List V} (hl : H l = some (.lst xs)) : ∀ {vs : List V} {ts : List Tr}, TrAll p H vs ts → TrAll p (upd H l (.lst ys)) vs ts
  | _, _, .nil => .nil
  | _, _, .cons h r => .cons (TrAt.mutL hl h) (TrAll.mutL hl r)
end
theorem TrAll.append : ∀ {vs ws : List V} {ts us : List Tr}, TrAll p H vs ts → TrAll p H ws us → TrAll p H (vs ++ ws) (ts ++ us)
  | _, _, _, _, .nil, h => h
  | _, _, _, _, .cons h r, k => .cons h (TrAll.append r k)
theorem TrAll.length : ∀ {vs : List V} {ts : List Tr}, TrAll p H vs ts → vs.length = ts.length
  | _, _, .nil => rfl
  | _, _, .cons _ r => by rw [List.length_cons, List.length_cons, TrAll.length r]
theorem TrAll.get : ∀ {vs : List V} {ts : List Tr} {i : Nat} {v : V}, TrAll p H vs ts → vs[i]? = some v → ∃ t, ts[i]? = some t ∧ TrAt p H v t
  | _, _, 0, _, .cons h _, e => ⟨_, rfl, by cases e; exact h⟩
  | _, _, i + 1, _, .cons _ r, e => TrAll.get (i := i) r e
end
theorem oks_get : ∀ {ts : List Tr} {i : Nat} {t : Tr}, Tr.oks ts → ts[i]? = some t → t.ok
  | t :: _, 0, _, h, e => by cases e; exact h.1
  | _ :: r, i + 1, _, h, e => oks_get (i := i) h.2 e
theorem deps_get : ∀ {ts : List Tr} {i : Nat} {t : Tr}, ts[i]? = some t → t.dep ≤ Tr.deps ts
  | t :: r, 0, _, e => by cases e; exact Nat.le_max_left _ _
  | t :: r, i + 1, _, e => Nat.le_trans (deps_get (i := i) e) (Nat.le_max_right _ _)
theorem bigs_get : ∀ {ts : List Tr} {i : Nat} {t : Tr}, ts[i]? = some t → t.big + 1 ≤ Tr.bigs ts
  | t :: r, 0, _, e => by
    cases e
    show t.big + 1 ≤ t.big + 1 + Tr.bigs r
    omega
  | t :: r, i + 1, u, e => by
    have := bigs_get (i := i) (t := u) (ts := r) e
    show u.big + 1 ≤ t.big + 1 + Tr.bigs r
    omega
theorem lvs_snoc : ∀ (ts : List Tr) (i : Nat) (t : Tr), ts[i]? = some t → Tr.lvs (ts.take (i + 1)) = Tr.lvs (ts.take i) ++ t.lv
  | x :: r, 0, t, e => by
    cases e
    show x.lv ++ Tr.lvs (r.take 0) = [] ++ x.lv
    rw [List.take_zero]
    show x.lv ++ [] = [] ++ x.lv
    simp
  | x :: r, i + 1, t, e => by
    show x.lv ++ Tr.lvs (r.take (i + 1)) = (x.lv ++ Tr.lvs (r.take i)) ++ t.lv
    rw [lvs_snoc r i t e, List.append_assoc]
/-! what its writing asks -/
theorem kind_small : ∀ k ∈ leafKinds ++ nodeKinds, k.cps.size ≤ 8 ∧ (k.cps.toList.all fun c => decide (c < 16 ^ 8)) = true := by decide +kernel
theorem name_small : ∀ k ∈ names, k.cps.size ≤ 8 ∧ (k.cps.toList.all fun c => decide (c < 16 ^ 8)) = true := by decide +kernel
theorem lk_size : ∀ k ∈ leafKinds, k.cps.size = 5 := by decide +kernel
mutual
theorem ok_show : ∀ t : Tr, t.ok → t.toD.showable = true ∧ t.toD.hasDict = false ∧ t.toD.leavesShort 30 = true ∧ t.toD.bulk ≤ t.big ∧ t.toD.depth ≤ t.dep + 1
  | .leaf k n, h => by
    obtain ⟨h1, h2⟩ := h
    have a := kind_small k (List.mem_append_left _ h1)
    have b := name_small n h2
    have c := lk_size k h1
    refine ⟨rfl, rfl, ?_, ?_, by show max 0 (max 0 0) + 1 ≤ 0 + 1; decide⟩
    · show ((k.cps.toList.all fun c => decide (c < 16 ^ 8)) && ((n.cps.toList.all fun c => decide (c < 16 ^ 8)) && true)) = true
      rw [a.2, b.2]
      rfl
    · show k.cps.size + 1 + (n.cps.size + 1 + 0) ≤ 15
      omega
  | .node k ps, h => by
    obtain ⟨h1, _, h3⟩ := h
    have a := kind_small k (List.mem_append_right _ h1)
    obtain ⟨r1, r2, r3, r4, r5⟩ := oks_show ps h3
    refine ⟨?_, ?_, ?_, ?_, ?_⟩
    · show (true && PyData.showableAll (Tr.toDs ps)) = true
      rw [r1]
      rfl
    · show (false || PyData.hasDictAll (Tr.toDs ps)) = false
      rw [r2]
      rfl
    · show ((k.cps.toList.all fun c => decide (c < 16 ^ 8)) && PyData.leavesShortAll 30 (Tr.toDs ps)) = true
      rw [a.2, r3]
      rfl
    · show k.cps.size + 1 + PyData.bulkAll (Tr.toDs ps) ≤ 9 + Tr.bigs ps
      omega
    · show max 0 (PyData.depthAll (Tr.toDs ps)) + 1 ≤ Tr.deps ps + 1 + 1
      omega
theorem oks_show : ∀ ts : List Tr, Tr.oks ts → PyData.showableAll (Tr.toDs ts) = true ∧ PyData.hasDictAll (Tr.toDs ts) = false ∧ PyData.leavesShortAll 30 (Tr.toDs ts) = true ∧ PyData.bulkAll (Tr.toDs ts) ≤ Tr.bigs ts ∧ PyData.depthAll (Tr.toDs ts) ≤ Tr.deps ts + 1
  | [], _ => ⟨rfl, rfl, rfl, Nat.le_refl _, Nat.zero_le _⟩
  | t :: r, h => by
    obtain ⟨a1, a2, a3, a4, a5⟩ := ok_show t h.1
    obtain ⟨b1, b2, b3, b4, b5⟩ := oks_show r h.2
    refine ⟨?_, ?_, ?_, ?_, ?_⟩
    · show (t.toD.showable && PyData.showableAll (Tr.toDs r)) = true
      rw [a1, b1]
      rfl
    · show (t.toD.hasDict || PyData.hasDictAll (Tr.toDs r)) = false
      rw [a2, b2]
      rfl
    · show (t.toD.leavesShort 30 && PyData.leavesShortAll 30 (Tr.toDs r)) = true
      rw [a3, b3]
      rfl
    · show t.toD.bulk + 1 + PyData.bulkAll (Tr.toDs r) ≤ t.big + 1 + Tr.bigs r
      omega
    · show max t.toD.depth (PyData.depthAll (Tr.toDs r)) ≤ max t.dep (Tr.deps r) + 1
      omega
end
/-- what repr wants of data -/
def Fine (d : PyData) : Prop := d.showable = true ∧ d.hasDict = false ∧ d.depth ≤ 60 ∧ d.shown.length ≤ 100000
theorem fine_of {d : PyData} {n : Nat} (h1 : d.showable = true) (h2 : d.hasDict = false) (h3 : d.leavesShort 30 = true) (h4 : d.bulk ≤ n) (hn : n ≤ 3000) (h5 : d.depth ≤ 60) : Fine d := by
  refine ⟨h1, h2, h5, ?_⟩
  have := PyData.shown_le_bulk 30 (by decide) d h3
  omega
theorem fine_tr {t : Tr} (h : t.ok) (hb : t.big ≤ 3000) (hd : t.dep ≤ 50) : Fine t.toD := by
  obtain ⟨h1, h2, h3, h4, h5⟩ := ok_show t h
  exact fine_of h1 h2 h3 h4 hb (by omega)
theorem fine_trs {ts : List Tr} (h : Tr.oks ts) (hb : Tr.bigs ts ≤ 3000) (hd : Tr.deps ts ≤ 50) : Fine (.tuple (Tr.toDs ts)) := by
  obtain ⟨h1, h2, h3, h4, h5⟩ := oks_show ts h
  refine fine_of (n := Tr.bigs ts) h1 h2 h3 h4 hb ?_
  show PyData.depthAll (Tr.toDs ts) + 1 ≤ 60
  omega
theorem rc_repr {K : PySem.W.Frag} {H : Hp} {a : Addr} {d : PyData} (h : Dp K H (.ref a) d) (f : Fine d) (up : ∀ H1, Ex H H1 → Dp K H1 (.ref a) d) : RC (rReprD K) [.ref a] H (.str d.shown) := fun H1 e _ q =>
  ⟨a, d, rfl, up H1 e, f.1, f.2.1, f.2.2.1, sz_of f.2.2.2, q H1 (Ex.refl _)⟩
mutual
theorem lv_ok : ∀ t : Tr, t.ok → Tr.oks t.lv ∧ Tr.bigs t.lv ≤ t.big + 1 ∧ Tr.deps t.lv = 0
  | .leaf k n, h => ⟨⟨h, trivial⟩, Nat.le_refl _, rfl⟩
  | .node k ps, h => by
    obtain ⟨a, b, c⟩ := lvs_ok ps h.2.2
    exact ⟨a, by show Tr.bigs (Tr.lvs ps) ≤ 9 + Tr.bigs ps + 1; omega, c⟩
theorem lvs_ok : ∀ ts : List Tr, Tr.oks ts → Tr.oks (Tr.lvs ts) ∧ Tr.bigs (Tr.lvs ts) ≤ Tr.bigs ts ∧ Tr.deps (Tr.lvs ts) = 0
  | [], _ => ⟨trivial, Nat.le_refl _, rfl⟩
  | t :: r, h => by
    obtain ⟨a, b, c⟩ := lv_ok t h.1
    obtain ⟨a', b', c'⟩ := lvs_ok r h.2
    refine ⟨oks_app a a', ?_, ?_⟩
    · show Tr.bigs (t.lv ++ Tr.lvs r) ≤ t.big + 1 + Tr.bigs r
      rw [bigs_app]
      omega
    · show Tr.deps (t.lv ++ Tr.lvs r) = 0
      rw [deps_app, c, c']
      rfl
theorem lvs_take : ∀ (ts : List Tr) (i : Nat), Tr.oks ts → Tr.bigs (Tr.lvs (ts.take i)) ≤ Tr.bigs ts
  | [], i, _ => by rw [List.take_nil]; exact Nat.le_refl _
  | t :: r, 0, _ => Nat.zero_le _
  | t :: r, i + 1, h => by
    have a := (lv_ok t h.1).2.1
    have b := lvs_take r i h.2
    show Tr.bigs (t.lv ++ Tr.lvs (r.take i)) ≤ t.big + 1 + Tr.bigs r
    rw [bigs_app]
    omega
theorem oks_app : ∀ {ts us : List Tr}, Tr.oks ts → Tr.oks us → Tr.oks (ts ++ us)
  | [], _, _, h => h
  | t :: r, _, h, k => ⟨h.1, oks_app h.2 k⟩
theorem bigs_app : ∀ (ts us : List Tr), Tr.bigs (ts ++ us) = Tr.bigs ts + Tr.bigs us
  | [], us => by show Tr.bigs us = 0 + Tr.bigs us; omega
  | t :: r, us => by
    show t.big + 1 + Tr.bigs (r ++ us) = t.big + 1 + Tr.bigs r + Tr.bigs us
    rw [bigs_app r us]
    omega
theorem deps_app : ∀ (ts us : List Tr), Tr.deps (ts ++ us) = max (Tr.deps ts) (Tr.deps us)
  | [], us => by show Tr.deps us = max 0 (Tr.deps us); omega
  | t :: r, us => by
    show max t.dep (Tr.deps (r ++ us)) = max (max t.dep (Tr.deps r)) (Tr.deps us)
    rw [deps_app r us]
    omega
end
section
variable {X : Cx}
/-- xs.extend(a tuple) -/
def rExtT (K : PySem.W.Frag) : V → List V → Hp → VK → Prop := fun x vs H Q => ∃ l b xs zs, x = .ref l ∧ vs = [.ref b] ∧ H l = some (.lst xs) ∧ H b = some (.tup zs) ∧ xs.length + zs.length ≤ sizeLine ∧ Q .non (upd H l (.lst (xs ++ zs)))
theorem mt_extT : MtM X "list.extend" (rExtT X.K) := by
  intro pins s σ H x vs v us Q I rx rv h
  obtain ⟨l, b, xs, zs, rfl, rfl, hH, hB, hz, q⟩ := h
  cases rx
  obtain ⟨u, rfl, ru⟩ := rv.one
  cases ru
  obtain ⟨z, its, n, r, hl, e⟩ := I.lstM hH
  obtain ⟨its2, r2, it2, z2⟩ := I.tuple (st_of hB)
  obtain ⟨⟨cls, dd, data, sl⟩, ho, hc, n2, hd⟩ := it2
  cases (show cls = Value.type "tuple" from hc)
  cases (show data = Data.seq its2.toArray n2 from hd)
  have l2 := r2.length
  have hsz : its.toArray.size + its2.toArray.size ≤ sizeLine := by rw [List.size_toArray, List.size_toArray]; omega
  have hlong : ¬ (!its.toArray.isEmpty && Builtin.List.listTooLong (its.toArray.size + its2.toArray.size)) = true := by
    rw [notLongL hsz, Bool.and_false]
    decide
  refine call_meets F.slot_list_extend ⟨_, e, rfl⟩ F.entry_list_extend (F.args_list_extend_2 _ _) (PySem.es_ext l its.toArray n b its2.toArray n2 dd sl hlong (by rw [List.size_toArray]; omega) (by omega)) ⟨e, ho, ?_⟩
  refine ⟨.non, _, I.lset (its' := its ++ its2) hH e (by simp) (r.append r2) ?_, rfl, q⟩
  rw [List.length_append]
  exact hz
end
end Es
namespace Es
open PySem PySem.Spec PyProof.Rows L2 Evl
/-- a list of leaves to draw from -/
def Menu (p : Addr) (H : Hp) (m : Addr) : Prop := m ≠ p ∧ ∃ ms : List V, H m = some (.lst ms) ∧ 1 ≤ ms.length ∧ ms.length ≤ 20 ∧ ∀ v ∈ ms, ∃ t, TrAt p H v t ∧ t.ok ∧ t.dep = 0
theorem Menu.xp {p m : Addr} {H H' : Hp} (h : Menu p H m) (e : Xp p H H') : Menu p H' m := by
  obtain ⟨n, ms, hm, h1, h2, h3⟩ := h
  refine ⟨n, ms, e _ _ n hm, h1, h2, fun v hv => ?_⟩
  obtain ⟨t, a, b, c⟩ := h3 v hv
  exact ⟨t, a.xp e, b, c⟩
theorem dep0_big {t : Tr} (h : t.dep = 0) : t.big = 15 := by
  cases t with
  | leaf k n => rfl
  | node k ps =>
    have : Tr.deps ps + 1 = 0 := h
    omega
def cost : Nat → Int
  | 0 => 1
  | n + 1 => 3 + 3 * cost n
def bg : Nat → Nat
  | 0 => 15
  | n + 1 => 12 + 3 * bg n
theorem cost_pos : ∀ n, 1 ≤ cost n
  | 0 => by decide
  | n + 1 => by
    have := cost_pos n
    show 1 ≤ 3 + 3 * cost n
    omega
theorem bg_ge : ∀ n, 15 ≤ bg n
  | 0 => by decide
  | n + 1 => by
    have := bg_ge n
    show 15 ≤ 12 + 3 * bg n
    omega
def spExpr (d : Nat) : Sp := fun vs H Q _ => ∃ (p m : Addr) (n : Nat) (c : Int), vs = [.ref p, .ref m, .int (n : Int)] ∧ n < d ∧ n ≤ 8 ∧ 0 ≤ c ∧ c + cost n ≤ 90000 ∧ Pot H p c ∧ Menu p H m ∧
  ∀ v t H', Xp p H H' → TrAt p H' v t → t.ok → t.dep ≤ n → t.big ≤ bg n → Pot H' p (c + cost n) → Q v H'
theorem kind2 (r : Int) (h0 : 2 ≤ r) (h1 : r < 4) : ∃ k ∈ nodeKinds, atI [V.str "repeat", V.str "optional"] (r - 2) = some (V.str k) := by
  have : r = 2 ∨ r = 3 := by omega
  rcases this with h | h <;> subst h
  · exact ⟨"repeat", by decide, rfl⟩
  · exact ⟨"optional", by decide, rfl⟩
theorem kind3 (r : Int) (h0 : 4 ≤ r) (h1 : r < 7) : ∃ k ∈ nodeKinds, atI [V.str "sequence", V.str "choice", V.str "sequence"] (r - 4) = some (V.str k) := by
  have : r = 4 ∨ r = 5 ∨ r = 6 := by omega
  rcases this with h | h | h <;> subst h
  · exact ⟨"sequence", by decide, rfl⟩
  · exact ⟨"choice", by decide, rfl⟩
  · exact ⟨"sequence", by decide, rfl⟩
/-- parts made so far: each of depth at most n -/
def Parts (p : Addr) (H : Hp) (n : Nat) (vs : List V) (ts : List Tr) : Prop := TrAll p H vs ts ∧ Tr.oks ts ∧ Tr.deps ts ≤ n ∧ Tr.bigs ts ≤ ts.length * (bg n + 1)
end Es
namespace Es
open PySem PySem.Spec PyProof.Rows L2 Evl
def abc : Str := "abcdefghijklmnopqrstuvwxyz"
/-- a token -/
def isTok : V → Bool
  | .str z => (decide (1 ≤ (z.length : Int)) && decide ((z.length : Int) ≤ 8)) && (z.cps.toList.map fun c => decide (c ∈ abc.cps.toList)).all id
  | _ => false
def tokD : PyData → Bool
  | .str z => isTok (.str z)
  | _ => false
/-- the datum is one of these texts -/
def inD (d : PyData) (zs : List Str) : Bool := zs.any fun z => isT z d
/-- the parts of a kind -/
def fitD (h : PyData) (n : Nat) : Bool := if inD h ["repeat", "optional"] then decide (n = 1) else inD h ["sequence", "choice"] && (decide (2 ≤ n) && decide (n ≤ 6))
/-- the loop over the parts -/
def loop (f : PyData → Int) : List PyData → Int → Int
  | [], t => t
  | q :: qs, t => if f q = 0 then 0 else if 16 < t + f q then t + f q else loop f qs (t + f q)
def cnt : Nat → PyData → Int
  | 0, _ => 0
  | L + 1, d => match d with
    | .tuple (h :: x :: r) => if inD h ["token", "block"] then (if decide (r.length = 0) && tokD x then 1 else 0) else if fitD h (r.length + 1) then loop (cnt L) (x :: r) 0 else 0
    | _ => 0
def lc : Nat → PyData → Int
  | 0, _ => -1000
  | L + 1, d => match d with
    | .tuple (h :: x :: r) => if inD h ["token", "block"] then (if decide (r.length = 0) && tokD x then 1 else -1000) else if fitD h (r.length + 1) then ((x :: r).map (lc L)).sum else -1000
    | _ => -1000
def Rel (c l : Int) (b : Nat) : Prop := (1 ≤ l ∧ 2 * l ≤ b ∧ (l ≤ 16 → c = l) ∧ (16 < l → 16 < c)) ∨ (2 * l ≤ b - 2000 ∧ (c = 0 ∨ 16 < c))
theorem loop_rel (f g : PyData → Int) : ∀ (qs : List PyData) (t : Int), (∀ q ∈ qs, Rel (f q) (g q) q.bulk) → 0 ≤ t → t ≤ 16 →
    ((qs.length ≤ (qs.map g).sum ∧ 2 * (qs.map g).sum ≤ PyData.bulkAll qs ∧ (t + (qs.map g).sum ≤ 16 → loop f qs t = t + (qs.map g).sum) ∧ (16 < t + (qs.map g).sum → 16 < loop f qs t)) ∨
      (2 * (qs.map g).sum ≤ PyData.bulkAll qs - 2000 ∧ (loop f qs t = 0 ∨ 16 < loop f qs t)))
  | [], t, _, h0, h1 => by
    left
    refine ⟨Int.le_refl _, Int.le_refl _, fun _ => ?_, fun h => ?_⟩
    · show t = t + 0
      omega
    · have : (16 : Int) < t + 0 := h
      omega
  | q :: qs, t, h, h0, h1 => by
    have hq := h q (List.mem_cons_self ..)
    have hr := fun t => loop_rel f g qs t (fun y hy => h y (List.mem_cons_of_mem _ hy))
    have es : ((q :: qs).map g).sum = g q + (qs.map g).sum := by rw [List.map_cons, List.sum_cons]
    have eb : PyData.bulkAll (q :: qs) = q.bulk + 1 + PyData.bulkAll qs := rfl
    have el : (q :: qs).length = qs.length + 1 := rfl
    rw [es, eb, el]
    show (_ ∧ _ ∧ (_ → (if f q = 0 then 0 else if 16 < t + f q then t + f q else loop f qs (t + f q)) = _) ∧ (_ → 16 < (if f q = 0 then 0 else if 16 < t + f q then t + f q else loop f qs (t + f q)))) ∨
      (_ ∧ ((if f q = 0 then 0 else if 16 < t + f q then t + f q else loop f qs (t + f q)) = 0 ∨ 16 < (if f q = 0 then 0 else if 16 < t + f q then t + f q else loop f qs (t + f q))))
    have hsum : 2 * (qs.map g).sum ≤ PyData.bulkAll qs := by
      rcases hr 0 (by decide) (by decide) with z | z
      · exact z.2.1
      · have := z.1
        omega
    rcases hq with ⟨a1, a2, a3, a4⟩ | ⟨a1, a2⟩
    · have fpos : 1 ≤ f q := by
        by_cases hl : g q ≤ 16
        · rw [a3 hl]
          exact a1
        · have := a4 (by omega)
          omega
      rw [if_neg (by omega)]
      by_cases ht : 16 < t + f q
      · rw [if_pos ht]
        rcases hr 0 (by decide) (by decide) with ⟨z1, z2, _⟩ | ⟨z1, _⟩
        · left
          refine ⟨by omega, by omega, fun hle => ?_, fun _ => ht⟩
          have := a3 (by omega)
          omega
        · right
          exact ⟨by omega, .inr ht⟩
      · rw [if_neg ht]
        have hg16 : g q ≤ 16 := by
          by_cases hl : g q ≤ 16
          · exact hl
          · have := a4 (by omega)
            omega
        have hfg := a3 hg16
        rcases hr (t + f q) (by omega) (by omega) with ⟨z1, z2, z3, z4⟩ | ⟨z1, z2⟩
        · left
          refine ⟨by omega, by omega, fun hle => ?_, fun hlt => z4 (by omega)⟩
          rw [z3 (by omega)]
          omega
        · right
          exact ⟨by omega, z2⟩
    · right
      refine ⟨by omega, ?_⟩
      rcases a2 with a2 | a2
      · rw [if_pos a2]
        exact .inl rfl
      · rw [if_neg (by omega), if_pos (by omega)]
        exact .inr (by omega)
theorem cnt_rel : ∀ (L : Nat) (d : PyData), Rel (cnt L d) (lc L d) d.bulk
  | 0, d => .inr ⟨by show 2 * (-1000 : Int) ≤ d.bulk - 2000; omega, .inl rfl⟩
  | L + 1, d => by
    have bad : ∀ b : Nat, Rel 0 (-1000) b := fun b => .inr ⟨by omega, .inl rfl⟩
    match d with
    | .none => exact bad _
    | .bool _ => exact bad _
    | .int _ => exact bad _
    | .str _ => exact bad _
    | .list _ => exact bad _
    | .dict _ => exact bad _
    | .tuple [] => exact bad _
    | .tuple [_] => exact bad _
    | .tuple (h :: x :: r) =>
      show Rel (if inD h ["token", "block"] then (if decide (r.length = 0) && tokD x then 1 else 0) else if fitD h (r.length + 1) then loop (cnt L) (x :: r) 0 else 0)
        (if inD h ["token", "block"] then (if decide (r.length = 0) && tokD x then 1 else -1000) else if fitD h (r.length + 1) then ((x :: r).map (lc L)).sum else -1000) (h.bulk + 1 + (x.bulk + 1 + PyData.bulkAll r))
      split
      · split
        · exact .inl ⟨by decide, by omega, fun _ => rfl, fun z => absurd z (by decide)⟩
        · exact bad _
      · split
        · have := loop_rel (cnt L) (lc L) (x :: r) 0 (fun q _ => cnt_rel L q) (by decide) (by decide)
          have eb : PyData.bulkAll (x :: r) = x.bulk + 1 + PyData.bulkAll r := rfl
          have el : (x :: r).length = r.length + 1 := rfl
          rw [eb, el] at this
          rcases this with ⟨z1, z2, z3, z4⟩ | ⟨z1, z2⟩
          · exact .inl ⟨by omega, by omega, fun hl => by rw [z3 (by omega)]; omega, fun hl => z4 (by omega)⟩
          · exact .inr ⟨by omega, z2⟩
        · exact bad _
theorem same {d : PyData} (h : d.bulk ≤ 1900) : (decide (1 ≤ cnt 8 d) && decide (cnt 8 d ≤ 16)) = (decide (0 < lc 8 d) && decide (lc 8 d < 17)) := by
  rcases cnt_rel 8 d with ⟨z1, z2, z3, z4⟩ | ⟨z1, z2⟩
  · by_cases hl : lc 8 d ≤ 16
    · rw [z3 hl, decide_eq_true (show 1 ≤ lc 8 d by omega), decide_eq_true (show lc 8 d ≤ 16 by omega), decide_eq_true (show 0 < lc 8 d by omega), decide_eq_true (show lc 8 d < 17 by omega)]
    · have := z4 (by omega)
      rw [decide_eq_false (show ¬ cnt 8 d ≤ 16 by omega), decide_eq_false (show ¬ lc 8 d < 17 by omega), Bool.and_false, Bool.and_false]
  · rw [decide_eq_false (show ¬ 0 < lc 8 d by omega), Bool.false_and]
    rcases z2 with z2 | z2
    · rw [decide_eq_false (show ¬ 1 ≤ cnt 8 d by omega), Bool.false_and]
    · rw [decide_eq_false (show ¬ cnt 8 d ≤ 16 by omega), Bool.and_false]
theorem loop_nn (f : PyData → Int) (hf : ∀ q, 0 ≤ f q) : ∀ (qs : List PyData) (t : Int), 0 ≤ t → 0 ≤ loop f qs t
  | [], t, h => h
  | q :: qs, t, h => by
    have := hf q
    show 0 ≤ if f q = 0 then 0 else if 16 < t + f q then t + f q else loop f qs (t + f q)
    split
    · exact Int.le_refl _
    · split
      · omega
      · exact loop_nn f hf qs _ (by omega)
theorem cnt_nn : ∀ (L : Nat) (d : PyData), 0 ≤ cnt L d
  | 0, d => Int.le_refl _
  | L + 1, d => by
    match d with
    | .none => exact Int.le_refl _
    | .bool _ => exact Int.le_refl _
    | .int _ => exact Int.le_refl _
    | .str _ => exact Int.le_refl _
    | .list _ => exact Int.le_refl _
    | .dict _ => exact Int.le_refl _
    | .tuple [] => exact Int.le_refl _
    | .tuple [_] => exact Int.le_refl _
    | .tuple (h :: x :: r) =>
      show 0 ≤ if inD h ["token", "block"] then (if decide (r.length = 0) && tokD x then 1 else 0) else if fitD h (r.length + 1) then loop (cnt L) (x :: r) 0 else 0
      split
      · split <;> decide
      · split
        · exact loop_nn _ (fun q => cnt_nn L q) _ _ (by decide)
        · exact Int.le_refl _
section
variable {X : Cx}
/-- any datum in a tuple of texts -/
def rInT (K : PySem.W.Frag) : R2 := fun x y H Q => ∃ (p : Option Sx) (d : PyData) (b : Addr) (zs : List Str), y = .ref b ∧ SqT K H b (zs.map V.str) ∧ Dd p H x d ∧ Q (.bl (inD d zs)) H
def eT (d : PyData) : Value → Bool
  | .str z _ => isT z d
  | _ => false
theorem any_eT (d : PyData) : ∀ (zs : List Str) (its : List Value), Vals (zs.map V.str) its → (∀ y ∈ its, ∃ z t, y = Value.str z t) ∧ its.any (eT d) = inD d zs
  | [], its, r => by
    cases r
    exact ⟨fun y h => (by cases h), rfl⟩
  | z :: zs, its, r => by
    cases r with
    | cons r1 r2 =>
      obtain ⟨t, rfl⟩ := r1
      obtain ⟨a, b⟩ := any_eT d zs _ r2
      refine ⟨fun y hy => ?_, ?_⟩
      · rcases List.mem_cons.mp hy with e | e
        · exact ⟨z, t, e⟩
        · exact a y e
      · rw [List.any_cons, b]
        rfl
theorem op_inT (hu : X.A.units + 64 < cLine) : OpR X (compareOp .In) (rInT X.K) := by
  intro pins s σ H x y v u Q I rx ry h
  obtain ⟨p, d, b, zs, rfl, hb, hd, q⟩ := h
  cases ry
  obtain ⟨its, r, t, _⟩ := I.tuple hb
  obtain ⟨h1, h2⟩ := any_eT d zs its r
  refine SeqAt.in_tupleAt (eT d) t (fun y hy => ?_) ⟨.bl (inD d zs), H, I, ?_, q⟩
  · obtain ⟨z, tk, rfl⟩ := h1 y (by simpa using hy)
    exact eqAt_Sd I hd rx (by show X.A.units + 1 < cLine; omega)
  · show Value.bool _ = Value.bool _
    rw [← Array.any_toList, h2]
/-- a tuple and the empty one -/
def rEqT0 (K : PySem.W.Frag) : R2 := fun x y H Q => ∃ a b xs, x = .ref a ∧ y = .ref b ∧ SqT K H a xs ∧ SqT K H b [] ∧ Q (.bl (decide (xs = []))) H
theorem rc_e0 {A : Around} {s : Shared} {a b : Addr} {its : Array Value} (hu : A.units < cLine) (t1 : s.heap.IsTuple a its) (t2 : s.heap.IsTuple b #[]) : SeqAt.RcAt A s (.ref a) (.ref b) (its.size == 0) := by
  have R := SeqAt.RcAt.tuples (e := fun _ => true) t1 t2 hu (fun j _ h2 => absurd h2 (Nat.not_lt_zero _))
  have e : ((List.range (min its.size (#[] : Array Value).size)).all (fun _ => true) && its.size == (#[] : Array Value).size) = (its.size == 0) := by
    show ((List.range (min its.size 0)).all (fun _ => true) && its.size == 0) = (its.size == 0)
    rw [Nat.min_zero]
    rfl
  rw [e] at R
  exact R
theorem op_eqT0 (hu : X.A.units + 64 < cLine) : OpR X (compareOp .Eq) (rEqT0 X.K) := by
  intro pins s σ H x y v u Q I rx ry h
  obtain ⟨a, b, xs, rfl, rfl, ha, hb, q⟩ := h
  cases rx
  cases ry
  obtain ⟨its, r1, t1, _⟩ := I.tuple ha
  obtain ⟨jts, r2, t2, _⟩ := I.tuple hb
  cases vals_nil r2
  refine rc_e0 (by omega) t1 t2 X.prog X.w X.xe _ ⟨.bl (decide (xs = [])), H, I, ?_, q⟩
  show Value.bool _ = Value.bool _
  congr 1
  have l := r1.length
  rw [List.size_toArray]
  cases xs with
  | nil =>
    cases its with
    | nil => rfl
    | cons y ys => cases l
  | cons z zs =>
    cases its with
    | nil => cases l
    | cons y ys => rfl
end
theorem tok_dd {p : Option Sx} {H : Hp} {v : V} {d : PyData} (h : Dd p H v d) : isTok v = tokD d := by
  cases h <;> rfl
theorem fit_len {n : Nat} {z : Str} (h : Fit n (.str z)) : z.length ≤ 8 * n := h.2.2.1
theorem rc_lenS2 {K : PySem.W.Frag} {H : Hp} {s : Str} (h : s.length ≤ 40000) : RC (rLen1 K) [.str s] H (.int (s.length : Int)) := fun H1 _ _ q => ⟨.str s, s.length, rfl, ⟨sz_of (by omega), rfl⟩, q H1 (Ex.refl _)⟩
theorem fit_fits {n : Nat} {ds : List PyData} (h : Fit n (.tuple ds)) : Fits n ds := by
  obtain ⟨a1, a2, a3, a4⟩ := h
  have a4' : PyData.depthAll ds + 1 ≤ n := a4
  exact ⟨a1, a2, a3, by omega⟩
theorem fits_get {n : Nat} : ∀ {ds : List PyData} {i : Nat} {d : PyData}, Fits n ds → ds[i]? = some d → Fit n d
  | x :: r, 0, _, h, e => by
    cases e
    obtain ⟨a1, a2, a3, a4⟩ := h
    have a1' : (x.showable && PyData.showableAll r) = true := a1
    have a2' : (x.leavesShort 30 && PyData.leavesShortAll 30 r) = true := a2
    rw [Bool.and_eq_true] at a1' a2'
    have a3' : x.bulk + 1 + PyData.bulkAll r ≤ 8 * n := a3
    have a4' : max x.depth (PyData.depthAll r) ≤ n := a4
    exact ⟨a1'.1, a2'.1, by omega, by omega⟩
  | x :: r, i + 1, _, h, e => fits_get (ds := r) (i := i) (h.sub.1 1) e
def spTok : Sp := fun vs H Q _ => ∃ (p : Option Sx) (v : V) (d : PyData), vs = [v] ∧ Dd p H v d ∧ Fit 2000 d ∧ RetV (.bl (tokD d)) H Q
/-- has_fitting_parts, of a tuple that is not empty -/
def spFit : Sp := fun vs H Q _ => ∃ (p : Option Sx) (a : Addr) (xs : List V) (h : PyData) (ds : List PyData), vs = [.ref a] ∧ H a = some (.tup xs) ∧ DdAll p H xs (h :: ds) ∧ RetV (.bl (fitD h ds.length)) H Q
def smallD : PyData → Bool
  | .tuple ds => decide ((ds.length : Int) < 2)
  | _ => true
theorem cut_1 (xs : List V) : cutV xs (some 1) none = xs.drop 1 := by
  unfold cutV
  rw [HT.sIx_none, show HT.sIx xs.length 0 (some (1 : Int)) = min 1 xs.length from HT.sIx_nat xs.length 0 1]
  cases xs with
  | nil => rfl
  | cons x r =>
    have e : min 1 (x :: r).length = 1 := by rw [List.length_cons]; omega
    rw [e, List.take_of_length_le (by rw [List.length_drop]; omega)]
def spCnt (D : Nat) : Sp := fun vs H Q _ => ∃ (p : Option Sx) (v : V) (d : PyData) (L : Nat), vs = [v, .int (L : Int)] ∧ L < D ∧ Dd p H v d ∧ Fit 2000 d ∧ RetV (.int (cnt L d)) H Q
theorem drop_get {α : Type} : ∀ {l : List α} {i : Nat} {x : α}, l[i]? = some x → l.drop i = x :: l.drop (i + 1)
  | y :: r, 0, x, h => by
    cases h
    rfl
  | y :: r, i + 1, x, h => drop_get (l := r) (i := i) h
def okE (d : PyData) : Bool := decide (1 ≤ cnt 8 d) && decide (cnt 8 d ≤ 16)
def spIsE : Sp := fun vs H Q _ => ∃ (p : Option Sx) (v : V) (d : PyData), vs = [v] ∧ Dd p H v d ∧ Fit 2000 d ∧ RetV (.bl (okE d)) H Q
end Es
namespace Es
open PySem PySem.Spec PyProof.Rows L2
def Tr.kind : Tr → Str
  | .leaf k _ => k
  | .node k _ => k
abbrev sBar : Str := "|"
abbrev sPo : Str := "("
abbrev sPc : Str := ")"
/-! how expressions are written: as a text, and as words -/
def inK (k : Str) : List Str := if k = "sequence" then ["sequence", "choice"] else if k = "choice" then ["choice"] else []
def openS (k : Str) : Str := if k = "repeat" then "{" else "["
def closeS (k : Str) : Str := if k = "repeat" then "}" else "]"
def leafS (k n : Str) : Str := if k = "token" then n else "<" ++ n ++ ">"
def shN (k : Str) (zs : List Str) : Str := if k = "sequence" then Str.join " " zs else if k = "choice" then Str.join " | " zs else openS k ++ " " ++ zs.headD Str.empty ++ " " ++ closeS k
mutual
def Tr.sh : Tr → Str
  | .leaf k n => leafS k n
  | .node k ps => shN k (Tr.shs (inK k) ps)
def Tr.shs (ks : List Str) : List Tr → List Str
  | [] => []
  | t :: r => (if t.kind ∈ ks then "( " ++ t.sh ++ " )" else t.sh) :: Tr.shs ks r
end
def barT : List (List Str) → List Str
  | [] => []
  | x :: r => sBar :: (x ++ barT r)
def bar : List (List Str) → List Str
  | [] => []
  | x :: r => x ++ barT r
def wdN (k : Str) (zs : List (List Str)) : List Str := if k = "sequence" then zs.flatten else if k = "choice" then bar zs else openS k :: (zs.headD [] ++ [closeS k])
def inBr (b : Prop) [Decidable b] (ws : List Str) : List Str := if b then sPo :: (ws ++ [sPc]) else ws
mutual
def Tr.wd : Tr → List Str
  | .leaf k n => [leafS k n]
  | .node k ps => wdN k (Tr.wds (inK k) ps)
def Tr.wds (ks : List Str) : List Tr → List (List Str)
  | [] => []
  | t :: r => inBr (t.kind ∈ ks) t.wd :: Tr.wds ks r
end
def abcS : Str := "abcdefghijklmnopqrstuvwxyz"
def tokS (z : Str) : Bool := (decide (1 ≤ (z.length : Int)) && decide ((z.length : Int) ≤ 8)) && (z.cps.toList.map fun c => decide (c ∈ abcS.cps.toList)).all id
def kindOk (k : Str) (n : Nat) : Prop := ((k = "repeat" ∨ k = "optional") ∧ n = 1) ∨ ((k = "sequence" ∨ k = "choice") ∧ 2 ≤ n ∧ n ≤ 6)
mutual
def Tr.fine : Tr → Prop
  | .leaf k n => k ∈ leafKinds ∧ tokS n = true
  | .node k ps => kindOk k ps.length ∧ Tr.fines ps
def Tr.fines : List Tr → Prop
  | [] => True
  | t :: r => t.fine ∧ Tr.fines r
end
theorem fines_mem : ∀ {ps : List Tr} {q : Tr}, Tr.fines ps → q ∈ ps → q.fine
  | t :: r, q, h, hq => by
    rcases List.mem_cons.mp hq with e | e
    · subst e
      exact h.1
    · exact fines_mem h.2 e
theorem deps_mem : ∀ {ps : List Tr} {q : Tr}, q ∈ ps → q.dep ≤ Tr.deps ps
  | t :: r, q, hq => by
    show q.dep ≤ max t.dep (Tr.deps r)
    rcases List.mem_cons.mp hq with e | e
    · subst e
      omega
    · have := deps_mem e
      omega
/-! the text is the words with blanks between -/
theorem join_app (s : Str) : ∀ {xs ys : List Str}, xs ≠ [] → ys ≠ [] → Str.join s (xs ++ ys) = Str.join s xs ++ s ++ Str.join s ys
  | [], _, h, _ => absurd rfl h
  | [x], y :: r, _, _ => rfl
  | x :: x' :: xs, ys, _, h => by
    show x ++ s ++ Str.join s ((x' :: xs) ++ ys) = (x ++ s ++ Str.join s (x' :: xs)) ++ s ++ Str.join s ys
    rw [join_app s (xs := x' :: xs) (by simp) h]
    simp only [Str.append_assoc]
theorem flat_ne : ∀ {zss : List (List Str)}, zss ≠ [] → (∀ z ∈ zss, z ≠ []) → zss.flatten ≠ []
  | [], h, _ => absurd rfl h
  | z :: r, _, hz => by
    have h0 := hz z (List.mem_cons_self ..)
    rw [List.flatten_cons]
    intro e
    exact h0 (List.append_eq_nil_iff.mp e).1
theorem join_flat (s : Str) : ∀ {zss : List (List Str)}, (∀ z ∈ zss, z ≠ []) → Str.join s (zss.map (Str.join s)) = Str.join s zss.flatten
  | [], _ => rfl
  | [z], _ => by
    show Str.join s z = Str.join s (z ++ [])
    rw [List.append_nil]
  | z :: y :: r, hz => by
    show Str.join s z ++ s ++ Str.join s ((y :: r).map (Str.join s)) = _
    have hr : ∀ x ∈ y :: r, x ≠ [] := fun x hx => hz x (List.mem_cons_of_mem _ hx)
    rw [join_flat s hr, show (z :: y :: r).flatten = z ++ (y :: r).flatten from rfl, join_app s (hz z (List.mem_cons_self ..)) (flat_ne (by simp) hr)]
theorem bar3 : (" | " : Str) = " " ++ "|" ++ " " := by decide +kernel
theorem bar_ne : ∀ {zss : List (List Str)}, zss ≠ [] → (∀ z ∈ zss, z ≠ []) → bar zss ≠ []
  | [], h, _ => absurd rfl h
  | z :: r, _, hz => fun e => hz z (List.mem_cons_self ..) (List.append_eq_nil_iff.mp e).1
theorem join_bar : ∀ {zss : List (List Str)}, (∀ z ∈ zss, z ≠ []) → Str.join " | " (zss.map (Str.join " ")) = Str.join " " (bar zss)
  | [], _ => rfl
  | [z], _ => by
    show Str.join " " z = Str.join " " (z ++ [])
    rw [List.append_nil]
  | z :: y :: r, hz => by
    show Str.join " " z ++ " | " ++ Str.join " | " ((y :: r).map (Str.join " ")) = Str.join " " (z ++ (sBar :: bar (y :: r)))
    have hr : ∀ x ∈ y :: r, x ≠ [] := fun x hx => hz x (List.mem_cons_of_mem _ hx)
    rw [join_bar hr, join_app " " (hz z (List.mem_cons_self ..)) (by simp), show (sBar :: bar (y :: r) : List Str) = [sBar] ++ bar (y :: r) from rfl, join_app " " (by simp) (bar_ne (by simp) hr), bar3]
    show _ = _ ++ (" " : Str) ++ (sBar ++ (" " : Str) ++ _)
    simp only [Str.append_assoc]
theorem inBr_ne {b : Prop} [Decidable b] {ws : List Str} (h : ws ≠ []) : inBr b ws ≠ [] := by
  unfold inBr
  split
  · simp
  · exact h
theorem par1 : ("( " : Str) = "(" ++ " " := by decide +kernel
theorem par2 : (" )" : Str) = " " ++ ")" := by decide +kernel
theorem join_br {b : Prop} [Decidable b] {ws : List Str} (h : ws ≠ []) : Str.join " " (inBr b ws) = if b then "( " ++ Str.join " " ws ++ " )" else Str.join " " ws := by
  unfold inBr
  by_cases hb : b
  · rw [if_pos hb, if_pos hb, show (sPo :: (ws ++ [sPc]) : List Str) = [sPo] ++ (ws ++ [sPc]) from rfl, join_app " " (by simp) (by simp), join_app " " h (by simp), par1, par2]
    show "(" ++ " " ++ (Str.join " " ws ++ " " ++ ")") = _
    simp only [Str.append_assoc]
  · rw [if_neg hb, if_neg hb]
theorem wds_len (ks : List Str) : ∀ ps : List Tr, (Tr.wds ks ps).length = ps.length
  | [] => rfl
  | t :: r => by
    show (Tr.wds ks r).length + 1 = r.length + 1
    rw [wds_len ks r]
mutual
theorem wd_ne : ∀ t : Tr, t.fine → t.wd ≠ []
  | .leaf k n, _ => by
    show [leafS k n] ≠ []
    simp
  | .node k ps, h => by
    obtain ⟨h1, h2⟩ := h
    have hz := wds_ne (inK k) ps h2
    have hl := wds_len (inK k) ps
    have h0 : Tr.wds (inK k) ps ≠ [] := by
      intro e
      rw [e] at hl
      have : ps.length = 0 := hl.symm
      rcases h1 with ⟨_, h1⟩ | ⟨_, h1, _⟩ <;> omega
    show wdN k (Tr.wds (inK k) ps) ≠ []
    unfold wdN
    split
    · exact flat_ne h0 hz
    · split
      · exact bar_ne h0 hz
      · simp
theorem wds_ne (ks : List Str) : ∀ ps : List Tr, Tr.fines ps → ∀ z ∈ Tr.wds ks ps, z ≠ []
  | [], _, z, hz => by cases hz
  | t :: r, h, z, hz => by
    have hz' : z ∈ inBr (t.kind ∈ ks) t.wd :: Tr.wds ks r := hz
    rcases List.mem_cons.mp hz' with e | e
    · subst e
      exact inBr_ne (wd_ne t h.1)
    · exact wds_ne ks r h.2 z e
end
theorem join_cons_ne (s x : Str) {ys : List Str} (h : ys ≠ []) : Str.join s (x :: ys) = x ++ s ++ Str.join s ys := by
  cases ys with
  | nil => exact absurd rfl h
  | cons y r => rfl
mutual
theorem sh_wd : ∀ t : Tr, t.fine → t.sh = Str.join " " t.wd
  | .leaf k n, _ => rfl
  | .node k ps, h => by
    obtain ⟨h1, h2⟩ := h
    have hz := wds_ne (inK k) ps h2
    have hs := shs_wd (inK k) ps h2
    show shN k (Tr.shs (inK k) ps) = Str.join " " (wdN k (Tr.wds (inK k) ps))
    rw [hs]
    unfold shN wdN
    by_cases e1 : k = "sequence"
    · rw [if_pos e1, if_pos e1, join_flat " " hz]
    · rw [if_neg e1, if_neg e1]
      by_cases e2 : k = "choice"
      · rw [if_pos e2, if_pos e2, join_bar hz]
      · rw [if_neg e2, if_neg e2]
        have hl := wds_len (inK k) ps
        rcases h1 with ⟨_, h1⟩ | ⟨h1, _⟩
        · rw [h1] at hl
          match hw : Tr.wds (inK k) ps, hl with
          | [z], _ =>
            have hzn : z ≠ [] := hz z (by rw [hw]; exact List.mem_singleton.mpr rfl)
            show openS k ++ " " ++ Str.join " " z ++ " " ++ closeS k = Str.join " " (openS k :: (z ++ [closeS k]))
            rw [join_cons_ne " " _ (by simp), join_app " " hzn (by simp)]
            show _ = openS k ++ " " ++ (Str.join " " z ++ " " ++ closeS k)
            simp only [Str.append_assoc]
        · exact absurd h1 (by rintro (h | h); exact e1 h; exact e2 h)
theorem shs_wd (ks : List Str) : ∀ ps : List Tr, Tr.fines ps → Tr.shs ks ps = (Tr.wds ks ps).map (Str.join " ")
  | [], _ => rfl
  | t :: r, h => by
    show (if t.kind ∈ ks then "( " ++ t.sh ++ " )" else t.sh) :: Tr.shs ks r = Str.join " " (inBr (t.kind ∈ ks) t.wd) :: (Tr.wds ks r).map (Str.join " ")
    rw [shs_wd ks r h.2, sh_wd t h.1, join_br (wd_ne t h.1)]
end
/-! reading the words -/
def leafD (w : Str) : PyData := if tokS w = true then .tuple [.str "token", .str w] else if cutS w none (some 1) = "<" ∧ cutS w (some (-1)) none = ">" ∧ tokS (cutS w (some 1) (some (-1))) = true then .tuple [.str "block", .str (cutS w (some 1) (some (-1)))] else .none
def brk (w : Str) : Option Str := if w = "(" then some "" else if w = "{" then some "repeat" else if w = "[" then some "optional" else none
def partF (ch : Option (List Str → PyData × List Str)) : List Str → PyData × List Str
  | [] => (.none, [])
  | w :: r => match brk w with
    | none => (leafD w, r)
    | some k => match ch with
      | none => (.none, r)
      | some c => (if w = "(" then (c r).1 else .tuple [.str k, (c r).1], (c r).2.drop 1)
def stopW (w : Str) : Bool := decide (w ∈ (["|", ")", "}", "]"] : List Str))
def seqF (p : List Str → PyData × List Str) : Nat → List Str → List PyData → List PyData × List Str
  | 0, ws, acc => (acc, ws)
  | _ + 1, [], acc => (acc, [])
  | n + 1, w :: r, acc => if stopW w = true then (acc, w :: r) else seqF p n (p (w :: r)).2 (acc ++ [(p (w :: r)).1])
def joinD (k : Str) : List PyData → PyData
  | [d] => d
  | ds => .tuple (.str k :: ds)
def seqR (p : List Str → PyData × List Str) (ws : List Str) : PyData × List Str := (joinD "sequence" (seqF p ws.length ws []).1, (seqF p ws.length ws []).2)
def choF (s : List Str → PyData × List Str) : Nat → List Str → List PyData → List PyData × List Str
  | 0, ws, acc => (acc, ws)
  | _ + 1, [], acc => (acc, [])
  | n + 1, w :: r, acc => if w = "|" then choF s n (s r).2 (acc ++ [(s r).1]) else (acc, w :: r)
def choR (s : List Str → PyData × List Str) (ws : List Str) : PyData × List Str := (joinD "choice" (choF s (s ws).2.length (s ws).2 [(s ws).1]).1, (choF s (s ws).2.length (s ws).2 [(s ws).1]).2)
def chL : Nat → List Str → PyData × List Str
  | 0 => choR (seqR (partF none))
  | L + 1 => choR (seqR (partF (some (chL L))))
def ptL : Nat → List Str → PyData × List Str
  | 0 => partF none
  | L + 1 => partF (some (chL L))
def sqL (L : Nat) : List Str → PyData × List Str := seqR (ptL L)
theorem chL_eq : ∀ L : Nat, chL L = choR (sqL L)
  | 0 => rfl
  | _ + 1 => rfl
/-! what is written is read back -/
def Stop (rest : List Str) : Prop := rest = [] ∨ ∃ w r, rest = w :: r ∧ stopW w = true
def StopC (rest : List Str) : Prop := rest = [] ∨ ∃ w r, rest = w :: r ∧ stopW w = true ∧ w ≠ sBar
theorem StopC.stop {rest : List Str} (h : StopC rest) : Stop rest := by
  rcases h with h | ⟨w, r, h1, h2, _⟩
  · exact .inl h
  · exact .inr ⟨w, r, h1, h2⟩
theorem seq_stop (p : List Str → PyData × List Str) (n : Nat) {rest : List Str} (h : Stop rest) (acc : List PyData) : seqF p n rest acc = (acc, rest) := by
  cases n with
  | zero => rfl
  | succ n =>
    rcases h with h | ⟨w, r, h, h2⟩
    · subst h
      rfl
    · subst h
      show (if stopW w = true then (acc, w :: r) else _) = _
      rw [if_pos h2]
theorem cho_stop (s : List Str → PyData × List Str) (n : Nat) {rest : List Str} (h : StopC rest) (acc : List PyData) : choF s n rest acc = (acc, rest) := by
  cases n with
  | zero => rfl
  | succ n =>
    rcases h with h | ⟨w, r, h, _, h2⟩
    · subst h
      rfl
    · subst h
      show (if w = sBar then _ else (acc, w :: r)) = _
      rw [if_neg h2]
/-- a part that begins with a word that does not stop -/
def Beg (x : List Str) : Prop := ∃ w r, x = w :: r ∧ stopW w = false
theorem seq_step {p : List Str → PyData × List Str} {n : Nat} {x rest : List Str} {d : PyData} (hb : Beg x) (hp : p (x ++ rest) = (d, rest)) (acc : List PyData) : seqF p (n + 1) (x ++ rest) acc = seqF p n rest (acc ++ [d]) := by
  obtain ⟨w, r, rfl, hw⟩ := hb
  have hp' : p (w :: (r ++ rest)) = (d, rest) := hp
  show (if stopW w = true then _ else seqF p n (p (w :: (r ++ rest))).2 (acc ++ [(p (w :: (r ++ rest))).1])) = _
  rw [if_neg (by rw [hw]; decide), hp']
theorem seq_all {p : List Str → PyData × List Str} {rest : List Str} (hs : Stop rest) : ∀ (zs : List (List Str)) (ds : List PyData) (n : Nat) (acc : List PyData), zs.length = ds.length → (∀ (i : Nat) (z : List Str) (d : PyData), zs[i]? = some z → ds[i]? = some d → Beg z ∧ ∀ r, p (z ++ r) = (d, r)) →
    zs.length ≤ n → seqF p n (zs.flatten ++ rest) acc = (acc ++ ds, rest)
  | [], [], n, acc, _, _, _ => by
    rw [List.append_nil]
    exact seq_stop p n hs acc
  | z :: zs, d :: ds, 0, acc, _, _, hn => by cases hn
  | z :: zs, d :: ds, n + 1, acc, hl, h, hn => by
    obtain ⟨hb, hp⟩ := h 0 z d rfl rfl
    have e : (z :: zs).flatten ++ rest = z ++ (zs.flatten ++ rest) := by
      rw [List.flatten_cons, List.append_assoc]
    rw [e, seq_step hb (hp _), seq_all hs zs ds n (acc ++ [d]) (Nat.succ.inj hl) (fun i z' d' a b => h (i + 1) z' d' a b) (Nat.le_of_succ_le_succ hn), List.append_assoc]
    rfl
theorem seq_one {p : List Str → PyData × List Str} {x rest : List Str} {d : PyData} (hb : Beg x) (hp : ∀ r, p (x ++ r) = (d, r)) (hs : Stop rest) : seqR p (x ++ rest) = (d, rest) := by
  have hl : 1 ≤ (x ++ rest).length := by
    obtain ⟨w, r, rfl, _⟩ := hb
    show 1 ≤ (r ++ rest).length + 1
    omega
  have := seq_all hs [x] [d] (x ++ rest).length [] rfl (fun i z e a b => by
    cases i with
    | zero => cases a; cases b; exact ⟨hb, hp⟩
    | succ i => cases a) hl
  rw [show [x].flatten ++ rest = x ++ rest from by rw [List.flatten_cons, List.flatten_nil, List.append_nil]] at this
  unfold seqR
  rw [this]
  rfl
theorem cho_one {s : List Str → PyData × List Str} {x rest : List Str} {d : PyData} (hp : s (x ++ rest) = (d, rest)) (hs : StopC rest) : choR s (x ++ rest) = (d, rest) := by
  unfold choR
  rw [hp]
  show (joinD "choice" (choF s rest.length rest [d]).1, (choF s rest.length rest [d]).2) = _
  rw [cho_stop s _ hs]
  rfl
theorem barT_stop {zs : List (List Str)} {rest : List Str} (hs : StopC rest) : Stop (barT zs ++ rest) := by
  cases zs with
  | nil => exact hs.stop
  | cons z r => exact .inr ⟨sBar, (z ++ barT r) ++ rest, rfl, by decide +kernel⟩
theorem cho_all {s : List Str → PyData × List Str} {rest : List Str} (hs : StopC rest) : ∀ (zs : List (List Str)) (ds : List PyData) (n : Nat) (acc : List PyData), zs.length = ds.length → (∀ (i : Nat) (z : List Str) (d : PyData), zs[i]? = some z → ds[i]? = some d → ∀ r, Stop r → s (z ++ r) = (d, r)) →
    zs.length ≤ n → choF s n (barT zs ++ rest) acc = (acc ++ ds, rest)
  | [], [], n, acc, _, _, _ => by
    rw [List.append_nil]
    exact cho_stop s n hs acc
  | z :: zs, d :: ds, 0, acc, _, _, hn => by cases hn
  | z :: zs, d :: ds, n + 1, acc, hl, h, hn => by
    have hp := h 0 z d rfl rfl (barT zs ++ rest) (barT_stop hs)
    have e : z ++ barT zs ++ rest = z ++ (barT zs ++ rest) := List.append_assoc ..
    show (if sBar = ("|" : Str) then choF s n (s (z ++ barT zs ++ rest)).2 (acc ++ [(s (z ++ barT zs ++ rest)).1]) else _) = _
    rw [if_pos rfl, e, hp]
    show choF s n (barT zs ++ rest) (acc ++ [d]) = _
    rw [cho_all hs zs ds n (acc ++ [d]) (Nat.succ.inj hl) (fun i z' d' a b => h (i + 1) z' d' a b) (Nat.le_of_succ_le_succ hn), List.append_assoc]
    rfl
/-! words of leaves -/
theorem tok_not {w : Str} (h : tokS w = true) (z : Str) (hz : tokS z = false) : w ≠ z := fun e => by
  rw [e, hz] at h
  cases h
theorem stop_tok {w : Str} (h : tokS w = true) : stopW w = false := by
  refine decide_eq_false fun hm => ?_
  simp only [List.mem_cons, List.not_mem_nil, or_false] at hm
  rcases hm with e | e | e | e <;> exact tok_not h _ (by decide +kernel) e
theorem brk_tok {w : Str} (h : tokS w = true) : brk w = none := by
  unfold brk
  rw [if_neg (tok_not h _ (by decide +kernel)), if_neg (tok_not h _ (by decide +kernel)), if_neg (tok_not h _ (by decide +kernel))]
theorem tok_len {n : Str} (h : tokS n = true) : 1 ≤ n.length ∧ n.length ≤ 8 := by
  unfold tokS at h
  rw [Bool.and_eq_true, Bool.and_eq_true] at h
  have h1 := of_decide_eq_true h.1.1
  have h2 := of_decide_eq_true h.1.2
  omega
theorem ang_len (n : Str) : (("<" : Str) ++ n ++ ">").length = n.length + 2 := by
  rw [Str.length_append, Str.length_append]
  show 1 + n.length + 1 = _
  omega
theorem len_not {w z : Str} (h : 3 ≤ w.length) (hz : z.length = 1) : w ≠ z := fun e => by
  rw [e] at h
  omega
theorem stop_ang {n : Str} (h : tokS n = true) : stopW ("<" ++ n ++ ">") = false := by
  have hl : 3 ≤ (("<" : Str) ++ n ++ ">").length := by
    have := tok_len h
    rw [ang_len]
    omega
  refine decide_eq_false fun hm => ?_
  simp only [List.mem_cons, List.not_mem_nil, or_false] at hm
  rcases hm with e | e | e | e <;> exact len_not hl (by decide +kernel) e
theorem brk_ang {n : Str} (h : tokS n = true) : brk ("<" ++ n ++ ">") = none := by
  have hl : 3 ≤ (("<" : Str) ++ n ++ ">").length := by
    have := tok_len h
    rw [ang_len]
    omega
  unfold brk
  rw [if_neg (len_not hl (by decide +kernel)), if_neg (len_not hl (by decide +kernel)), if_neg (len_not hl (by decide +kernel))]
theorem ang_cps (n : Str) : (("<" : Str) ++ n ++ ">").cps.toList = 60 :: (n.cps.toList ++ [62]) := by
  rw [Str.cps_append, Str.cps_append, Array.toList_append, Array.toList_append]
  show ([60] ++ n.cps.toList) ++ [62] = _
  rw [List.append_assoc]
  rfl
theorem ang_nt (n : Str) : tokS ("<" ++ n ++ ">") = false := by
  unfold tokS
  rw [ang_cps]
  show (_ && (decide (60 ∈ abcS.cps.toList) && _)) = false
  rw [show decide (60 ∈ abcS.cps.toList) = false from by decide +kernel, Bool.false_and, Bool.and_false]
theorem ang_1 (n : Str) : cutS ("<" ++ n ++ ">") none (some 1) = "<" := by
  unfold cutS
  rw [ang_cps, ang_len, HT.sIx_none, show HT.sIx (n.length + 2) (n.length + 2) (some (1 : Int)) = min 1 (n.length + 2) from HT.sIx_nat _ _ 1, show min 1 (n.length + 2) = 1 by omega]
  show (⟨(List.take (1 - 0) (60 :: (n.cps.toList ++ [62]))).toArray⟩ : Str) = _
  rw [show (1 - 0) = 0 + 1 from rfl, List.take_succ_cons, List.take_zero]
  decide +kernel
theorem ang_ix (n : Nat) : HT.sIx (n + 2) 0 (some (-1)) = n + 1 ∧ HT.sIx (n + 2) (n + 2) (some (-1)) = n + 1 := by
  constructor <;>
  · show (if (-1 : Int) < 0 then ((-1 : Int) + ((n + 2 : Nat) : Int)).toNat else min (-1 : Int).toNat (n + 2)) = _
    rw [if_pos (by decide)]
    omega
theorem ang_2 (n : Str) : cutS ("<" ++ n ++ ">") (some (-1)) none = ">" := by
  unfold cutS
  rw [ang_cps, ang_len, HT.sIx_none, (ang_ix _).1]
  have hl : n.cps.toList.length = n.length := Array.length_toList
  rw [List.drop_succ_cons, ← hl, List.drop_left, show n.cps.toList.length + 2 - (n.cps.toList.length + 1) = 1 by omega]
  decide +kernel
theorem ang_3 (n : Str) : cutS ("<" ++ n ++ ">") (some 1) (some (-1)) = n := by
  unfold cutS
  rw [ang_cps, ang_len, show HT.sIx (n.length + 2) 0 (some (1 : Int)) = min 1 (n.length + 2) from HT.sIx_nat _ _ 1, (ang_ix _).2, show min 1 (n.length + 2) = 0 + 1 by omega, List.drop_succ_cons, List.drop_zero]
  have hl : n.cps.toList.length = n.length := Array.length_toList
  rw [show n.length + 1 - (0 + 1) = n.length by omega, ← hl, List.take_left]
theorem leaf_tok {n : Str} (h : tokS n = true) : leafD n = .tuple [.str "token", .str n] := by
  unfold leafD
  rw [if_pos h]
theorem leaf_ang {n : Str} (h : tokS n = true) : leafD ("<" ++ n ++ ">") = .tuple [.str "block", .str n] := by
  unfold leafD
  rw [if_neg (by rw [ang_nt]; decide), ang_1, ang_2, ang_3, if_pos ⟨rfl, rfl, h⟩]
theorem leaf_read {k n : Str} (hk : k ∈ leafKinds) (h : tokS n = true) : brk (leafS k n) = none ∧ stopW (leafS k n) = false ∧ leafD (leafS k n) = (Tr.leaf k n).toD := by
  simp only [leafKinds, List.mem_cons, List.not_mem_nil, or_false] at hk
  rcases hk with e | e <;> subst e
  · unfold leafS
    rw [if_pos rfl]
    exact ⟨brk_tok h, stop_tok h, leaf_tok h⟩
  · unfold leafS
    rw [if_neg (by decide +kernel)]
    exact ⟨brk_ang h, stop_ang h, leaf_ang h⟩
/-! the whole -/
def Flat (k : Str) : Prop := k ≠ "sequence" ∧ k ≠ "choice"
structure Back (t : Tr) (L : Nat) : Prop where
  pt : Flat t.kind → Beg t.wd ∧ ∀ rest, ptL L (t.wd ++ rest) = (t.toD, rest)
  sq : t.kind ≠ "choice" → ∀ rest, Stop rest → sqL L (t.wd ++ rest) = (t.toD, rest)
  ch : ∀ rest, StopC rest → chL L (t.wd ++ rest) = (t.toD, rest)
theorem back_flat {t : Tr} {L : Nat} (hf : Flat t.kind) (h : Beg t.wd ∧ ∀ rest, ptL L (t.wd ++ rest) = (t.toD, rest)) : Back t L :=
  ⟨fun _ => h, fun _ rest hs => seq_one h.1 h.2 hs, fun rest hs => by rw [chL_eq]; exact cho_one (seq_one h.1 h.2 hs.stop) hs⟩
theorem po_beg (ws : List Str) : Beg (sPo :: (ws ++ [sPc])) := ⟨sPo, ws ++ [sPc], rfl, by decide +kernel⟩
theorem pc_stop (rest : List Str) : StopC (sPc :: rest) := .inr ⟨sPc, rest, rfl, by decide +kernel, by decide +kernel⟩
/-- a part in brackets, or one that needs none -/
theorem part_br {q : Tr} {L : Nat} {ks : List Str} (h : Back q L) (h1 : Back q (L + 1)) (hk : q.kind ∈ ks ∨ Flat q.kind) : Beg (inBr (q.kind ∈ ks) q.wd) ∧ ∀ rest, ptL (L + 1) (inBr (q.kind ∈ ks) q.wd ++ rest) = (q.toD, rest) := by
  unfold inBr
  by_cases hq : q.kind ∈ ks
  · rw [if_pos hq]
    refine ⟨po_beg _, fun rest => ?_⟩
    have e : sPo :: (q.wd ++ [sPc]) ++ rest = sPo :: (q.wd ++ (sPc :: rest)) := by
      rw [List.cons_append, List.append_assoc]
      rfl
    rw [e]
    show ((if sPo = ("(" : Str) then (chL L (q.wd ++ sPc :: rest)).1 else _), (chL L (q.wd ++ sPc :: rest)).2.drop 1) = _
    rw [h.ch _ (pc_stop rest), if_pos rfl]
    rfl
  · rw [if_neg hq]
    exact h1.pt (hk.resolve_left hq)
theorem wds_get (ks : List Str) : ∀ (ps : List Tr) (i : Nat) (z : List Str) (d : PyData), (Tr.wds ks ps)[i]? = some z → (Tr.toDs ps)[i]? = some d → ∃ q ∈ ps, z = inBr (q.kind ∈ ks) q.wd ∧ d = q.toD
  | [], i, z, d, h, _ => by cases h
  | t :: r, 0, z, d, h, h2 => by
    cases h
    cases h2
    exact ⟨t, List.mem_cons_self .., rfl, rfl⟩
  | t :: r, i + 1, z, d, h, h2 => by
    obtain ⟨q, hq, e1, e2⟩ := wds_get ks r i z d h h2
    exact ⟨q, List.mem_cons_of_mem _ hq, e1, e2⟩
theorem toDs_len : ∀ ps : List Tr, (Tr.toDs ps).length = ps.length
  | [] => rfl
  | t :: r => by
    show (Tr.toDs r).length + 1 = r.length + 1
    rw [toDs_len r]
theorem join_two {k : Str} {ds : List PyData} (h : 2 ≤ ds.length) : joinD k ds = .tuple (.str k :: ds) := by
  match ds, h with
  | _ :: _ :: _, _ => rfl
theorem flat_len : ∀ zs : List (List Str), (∀ z ∈ zs, z ≠ []) → zs.length ≤ zs.flatten.length
  | [], _ => Nat.le_refl _
  | z :: r, h => by
    have h0 := h z (List.mem_cons_self ..)
    have := flat_len r fun y hy => h y (List.mem_cons_of_mem _ hy)
    rw [List.flatten_cons, List.length_append]
    cases z with
    | nil => exact absurd rfl h0
    | cons a b =>
      show r.length + 1 ≤ b.length + 1 + r.flatten.length
      omega
theorem barT_len : ∀ zs : List (List Str), zs.length ≤ (barT zs).length
  | [] => Nat.le_refl _
  | z :: r => by
    have := barT_len r
    show r.length + 1 ≤ (z ++ barT r).length + 1
    rw [List.length_append]
    omega
/-- a node of parts that are read back -/
theorem back_node {k : Str} {ps : List Tr} (hk : kindOk k ps.length) (hf : Tr.fines ps) {L : Nat} (h : ∀ q ∈ ps, ∀ M, L ≤ M → Back q M) : Back (.node k ps) (L + 1) := by
  have hz := wds_ne (inK k) ps hf
  have hl := wds_len (inK k) ps
  have hd := toDs_len ps
  rcases hk with ⟨hk, h1⟩ | ⟨hk, h1, _⟩
  · -- brackets of its own
    have n1 : ¬ k = "sequence" := by rcases hk with e | e <;> subst e <;> decide +kernel
    have n2 : ¬ k = "choice" := by rcases hk with e | e <;> subst e <;> decide +kernel
    match ps, h1 with
    | [q], _ =>
      have hin : inK k = [] := by
        unfold inK
        rw [if_neg n1, if_neg n2]
      have ew : (Tr.node k [q]).wd = openS k :: (q.wd ++ [closeS k]) := by
        show wdN k (Tr.wds (inK k) [q]) = _
        unfold wdN
        rw [if_neg n1, if_neg n2, hin]
        show openS k :: (inBr (q.kind ∈ []) q.wd ++ [closeS k]) = _
        unfold inBr
        rw [if_neg (by intro z; cases z)]
      refine back_flat ⟨n1, n2⟩ ⟨?_, fun rest => ?_⟩
      · rw [ew]
        refine ⟨openS k, _, rfl, ?_⟩
        rcases hk with e | e <;> subst e <;> decide +kernel
      · rw [ew]
        have e : openS k :: (q.wd ++ [closeS k]) ++ rest = openS k :: (q.wd ++ (closeS k :: rest)) := by
          rw [List.cons_append, List.append_assoc]
          rfl
        have hs : StopC (closeS k :: rest) := .inr ⟨closeS k, rest, rfl, by rcases hk with e | e <;> subst e <;> decide +kernel, by rcases hk with e | e <;> subst e <;> decide +kernel⟩
        have hb : brk (openS k) = some k ∧ ¬ openS k = ("(" : Str) := by
          rcases hk with e | e <;> subst e <;> decide +kernel
        rw [e]
        show (match brk (openS k) with
          | none => (leafD (openS k), q.wd ++ (closeS k :: rest))
          | some k' => (if openS k = ("(" : Str) then (chL L (q.wd ++ (closeS k :: rest))).1 else .tuple [.str k', (chL L (q.wd ++ (closeS k :: rest))).1], (chL L (q.wd ++ (closeS k :: rest))).2.drop 1)) = _
        rw [hb.1]
        show (if openS k = ("(" : Str) then (chL L (q.wd ++ (closeS k :: rest))).1 else .tuple [.str k, (chL L (q.wd ++ (closeS k :: rest))).1], (chL L (q.wd ++ (closeS k :: rest))).2.drop 1) = _
        rw [if_neg hb.2, (h q (List.mem_singleton.mpr rfl) L (Nat.le_refl _)).ch _ hs]
        rfl
  · rcases hk with e | e
    · -- a sequence
      subst e
      have ew : (Tr.node "sequence" ps).wd = (Tr.wds ["sequence", "choice"] ps).flatten := rfl
      have hsq : ∀ rest, Stop rest → sqL (L + 1) ((Tr.node "sequence" ps).wd ++ rest) = ((Tr.node "sequence" ps).toD, rest) := by
        intro rest hs
        rw [ew]
        have hall := seq_all (p := ptL (L + 1)) hs (Tr.wds ["sequence", "choice"] ps) (Tr.toDs ps) ((Tr.wds ["sequence", "choice"] ps).flatten ++ rest).length [] (by rw [hd]; exact hl) (fun i z d hz1 hz2 => by
          obtain ⟨q, hq, e1, e2⟩ := wds_get _ ps i z d hz1 hz2
          subst e1 e2
          refine part_br (h q hq L (Nat.le_refl _)) (h q hq (L + 1) (Nat.le_succ _)) ?_
          by_cases c1 : q.kind = "sequence"
          · exact .inl (by rw [c1]; decide +kernel)
          · by_cases c2 : q.kind = "choice"
            · exact .inl (by rw [c2]; decide +kernel)
            · exact .inr ⟨c1, c2⟩) (by
          have := flat_len _ hz
          rw [List.length_append]
          exact Nat.le_trans this (Nat.le_add_right _ _))
        unfold sqL seqR
        rw [hall]
        show (joinD "sequence" ([] ++ Tr.toDs ps), rest) = _
        rw [List.nil_append, join_two (by omega)]
        rfl
      exact ⟨fun z => absurd rfl z.1, fun _ => hsq, fun rest hs => by rw [chL_eq]; exact cho_one (hsq rest hs.stop) hs⟩
    · -- a choice
      subst e
      refine ⟨fun z => absurd rfl z.2, fun z => absurd rfl z, fun rest hs => ?_⟩
      have hpart : ∀ q ∈ ps, ∀ r, Stop r → sqL (L + 1) (inBr (q.kind ∈ (["choice"] : List Str)) q.wd ++ r) = (q.toD, r) := by
        intro q hq r hr
        by_cases c : q.kind = "choice"
        · have hb := part_br (ks := ["choice"]) (h q hq L (Nat.le_refl _)) (h q hq (L + 1) (Nat.le_succ _)) (.inl (by rw [c]; decide +kernel))
          exact seq_one hb.1 hb.2 hr
        · unfold inBr
          rw [if_neg (fun z => c (List.mem_singleton.mp z))]
          exact (h q hq (L + 1) (Nat.le_succ _)).sq c r hr
      match ps, h1 with
      | q :: ps', h1 =>
        have ew : (Tr.node "choice" (q :: ps')).wd = inBr (q.kind ∈ (["choice"] : List Str)) q.wd ++ barT (Tr.wds ["choice"] ps') := rfl
        rw [ew, chL_eq, List.append_assoc]
        have h0 := hpart q (List.mem_cons_self ..) (barT (Tr.wds ["choice"] ps') ++ rest) (barT_stop hs)
        unfold choR
        rw [h0]
        have hall := cho_all (s := sqL (L + 1)) hs (Tr.wds ["choice"] ps') (Tr.toDs ps') (barT (Tr.wds ["choice"] ps') ++ rest).length [q.toD] (by rw [wds_len, toDs_len]) (fun i z d hz1 hz2 => by
          obtain ⟨q', hq', e1, e2⟩ := wds_get _ ps' i z d hz1 hz2
          subst e1 e2
          exact hpart q' (List.mem_cons_of_mem _ hq')) (by
          have := barT_len (Tr.wds ["choice"] ps')
          rw [List.length_append]
          exact Nat.le_trans this (Nat.le_add_right _ _))
        show (joinD "choice" (choF (sqL (L + 1)) (barT (Tr.wds ["choice"] ps') ++ rest).length (barT (Tr.wds ["choice"] ps') ++ rest) [q.toD]).1, (choF (sqL (L + 1)) (barT (Tr.wds ["choice"] ps') ++ rest).length (barT (Tr.wds ["choice"] ps') ++ rest) [q.toD]).2) = _
        rw [hall]
        show (joinD "choice" (q.toD :: Tr.toDs ps'), rest) = _
        rw [join_two (by rw [List.length_cons, toDs_len]; exact h1)]
        rfl
mutual
theorem back : ∀ t : Tr, t.fine → ∀ L, t.dep ≤ L → Back t L
  | .leaf k n, h, L, _ => by
    obtain ⟨hk, hn⟩ := h
    obtain ⟨a, b, c⟩ := leaf_read hk hn
    have hf : Flat (Tr.leaf k n).kind := by
      show Flat k
      simp only [leafKinds, List.mem_cons, List.not_mem_nil, or_false] at hk
      rcases hk with e | e <;> subst e <;> exact ⟨by decide +kernel, by decide +kernel⟩
    refine back_flat hf ⟨⟨leafS k n, [], rfl, b⟩, fun rest => ?_⟩
    have key : ∀ ch : Option (List Str → PyData × List Str), partF ch (leafS k n :: rest) = (leafD (leafS k n), rest) := fun ch => by
      show (match brk (leafS k n) with
        | none => (leafD (leafS k n), rest)
        | some k' => match ch with
          | none => (.none, rest)
          | some c => (if leafS k n = "(" then (c rest).1 else .tuple [.str k', (c rest).1], (c rest).2.drop 1)) = _
      rw [a]
    show ptL L (leafS k n :: rest) = _
    rw [← c]
    cases L with
    | zero => exact key none
    | succ L => exact key (some (chL L))
  | .node k ps, h, 0, hd => by
    have hd' : Tr.deps ps + 1 ≤ 0 := hd
    omega
  | .node k ps, h, L + 1, hd => by
    have hd' : Tr.deps ps + 1 ≤ L + 1 := hd
    exact back_node h.1 h.2 fun q hq M hM => backs ps h.2 L (by omega) q hq M hM
theorem backs : ∀ ps : List Tr, Tr.fines ps → ∀ L, Tr.deps ps ≤ L → ∀ q ∈ ps, ∀ M, L ≤ M → Back q M
  | [], _, _, _, q, hq, _, _ => by cases hq
  | t :: r, h, L, hd, q, hq, M, hM => by
    have hd' : max t.dep (Tr.deps r) ≤ L := hd
    rcases List.mem_cons.mp hq with e | e
    · rw [e]
      exact back t h.1 M (by omega)
    · exact backs r h.2 L (by omega) q e M hM
end
end Es
namespace Es
open PySem PySem.Spec PyProof.Rows L2
mutual
/-- how long the text is at most -/
def Tr.wid : Tr → Nat
  | .leaf _ _ => 10
  | .node _ ps => 4 + Tr.wids ps
def Tr.wids : List Tr → Nat
  | [] => 0
  | t :: r => t.wid + 7 + Tr.wids r
end
theorem shs_len (ks : List Str) : ∀ ps : List Tr, (Tr.shs ks ps).length = ps.length
  | [] => rfl
  | t :: r => by
    show (Tr.shs ks r).length + 1 = r.length + 1
    rw [shs_len ks r]
mutual
theorem sh_len : ∀ t : Tr, t.fine → t.sh.length ≤ t.wid
  | .leaf k n, h => by
    have hl := tok_len h.2
    show (leafS k n).length ≤ 10
    unfold leafS
    split
    · omega
    · rw [ang_len]
      omega
  | .node k ps, h => by
    have hs := shs_sum (inK k) ps h.2
    have hl := shs_len (inK k) ps
    show (shN k (Tr.shs (inK k) ps)).length ≤ 4 + Tr.wids ps
    unfold shN
    split
    · have := StrLaws.join_length_le " " (Tr.shs (inK k) ps)
      have e : ((" " : Str)).length = 1 := by decide +kernel
      rw [e] at this
      omega
    · split
      · have := StrLaws.join_length_le " | " (Tr.shs (inK k) ps)
        have e : ((" | " : Str)).length = 3 := by decide +kernel
        rw [e] at this
        omega
      · rw [Str.length_append, Str.length_append, Str.length_append, Str.length_append]
        have e : ((" " : Str)).length = 1 := by decide +kernel
        have e1 : (openS k).length = 1 := by
          unfold openS
          split <;> decide +kernel
        have e2 : (closeS k).length = 1 := by
          unfold closeS
          split <;> decide +kernel
        have e3 : ((Tr.shs (inK k) ps).headD Str.empty).length ≤ ((Tr.shs (inK k) ps).map (·.length)).sum := by
          cases Tr.shs (inK k) ps with
          | nil => exact Nat.le_refl _
          | cons z r =>
            show z.length ≤ z.length + _
            omega
        omega
theorem shs_sum (ks : List Str) : ∀ ps : List Tr, Tr.fines ps → ((Tr.shs ks ps).map (·.length)).sum + 3 * ps.length ≤ Tr.wids ps
  | [], _ => Nat.le_refl _
  | t :: r, h => by
    have h1 := sh_len t h.1
    have h2 := shs_sum ks r h.2
    show ((if t.kind ∈ ks then "( " ++ t.sh ++ " )" else t.sh) : Str).length + ((Tr.shs ks r).map (·.length)).sum + 3 * (r.length + 1) ≤ t.wid + 7 + Tr.wids r
    have h3 : ((if t.kind ∈ ks then "( " ++ t.sh ++ " )" else t.sh) : Str).length ≤ t.sh.length + 4 := by
      split
      · rw [Str.length_append, Str.length_append]
        show 2 + t.sh.length + 2 ≤ _
        omega
      · omega
    omega
end
theorem wids_get : ∀ {ps : List Tr} {i : Nat} {q : Tr}, ps[i]? = some q → q.wid ≤ Tr.wids ps
  | t :: r, 0, q, e => by
    cases e
    show t.wid ≤ t.wid + 7 + Tr.wids r
    omega
  | t :: r, i + 1, q, e => by
    have := wids_get (ps := r) (i := i) e
    show q.wid ≤ t.wid + 7 + Tr.wids r
    omega
theorem fines_get {ps : List Tr} {i : Nat} {q : Tr} (h : Tr.fines ps) (e : ps[i]? = some q) : q.fine := fines_mem h (List.mem_of_getElem? e)
theorem toDs_get : ∀ {ps : List Tr} {i : Nat} {d : PyData}, (Tr.toDs ps)[i]? = some d → ∃ q, ps[i]? = some q ∧ d = q.toD
  | t :: r, 0, d, e => by
    cases e
    exact ⟨t, rfl, rfl⟩
  | t :: r, i + 1, d, e => toDs_get (ps := r) (i := i) e
theorem shs_get (ks : List Str) : ∀ {ps : List Tr} {i : Nat} {q : Tr}, ps[i]? = some q → (Tr.shs ks ps)[i]? = some (if q.kind ∈ ks then "( " ++ q.sh ++ " )" else q.sh)
  | t :: r, 0, q, e => by
    cases e
    rfl
  | t :: r, i + 1, q, e => shs_get ks (ps := r) (i := i) e
end Es
namespace HT
open PySem PySem.Spec PyProof.Rows
section
variable {prog : Program} {w : World} {A : Around} {E : Value → Shared → Prop} {s : Shared}
theorem es_applied_rev {sl : Addr} {vl vu vs : Value} {n : Nat} {Q : Int × Int × Nat → Shared → Prop} (hs : s.heap.IsSliceOf sl vl vu vs) (pl : IsPart vl none) (pu : IsPart vu none) (ps : IsPart vs (some (-1)))
    (h : Q ((n : Int) - 1, -1, n) s) : wpAny (model prog w) A (Builtin.Slice.sliceApplied (.ref sl) (pure (n : Int))) Q E s := by
  obtain ⟨os, hos, hcs, hds⟩ := id hs
  unfold Builtin.Slice.sliceApplied Builtin.Slice.sliceFields
  refine wpAny_bind (wpAny_bind (wpAny_field hos hds (x := vl) rfl (wpAny_bind (wpAny_field hos hds (x := vu) rfl (wpAny_bind (wpAny_field hos hds (x := vs) rfl (wpAny_pure ?_)))))))
  refine wpAny_bind (slicePart_ ps ?_)
  show wpAny _ _ (if ((-1 : Int) == 0) = true then _ else _) _ _ s
  rw [if_neg (by decide)]
  refine wpAny_bind (slicePart_ pl (wpAny_bind (slicePart_ pu (wpAny_bind (wpAny_pure ?_)))))
  show wpAny _ _ (match Builtin.Slice.sliceAdjust none none (-1) (n : Int) with | (lo, hi) => pure (lo, (-1 : Int), Builtin.Slice.slicePlaces lo hi (-1))) _ _ s
  show wpAny _ _ (pure ((n : Int) - 1, (-1 : Int), Builtin.Slice.slicePlaces ((n : Int) - 1) (-1) (-1))) _ _ s
  have e : Builtin.Slice.slicePlaces ((n : Int) - 1) (-1) (-1) = n := by
    unfold Builtin.Slice.slicePlaces
    rw [if_neg (by decide)]
    by_cases hn : n = 0
    · subst hn
      rfl
    · rw [if_pos (by omega)]
      show (((n : Int) - 1 - -1 - 1) / 1 + 1).toNat = n
      rw [Int.ediv_one]
      omega
  rw [e]
  exact wpAny_pure h
theorem es_fm {α β : Type} (f g : α → Option β) : ∀ l : List α, (∀ x ∈ l, f x = g x) → l.filterMap f = l.filterMap g
  | [], _ => rfl
  | x :: r, h => by
    rw [List.filterMap_cons, List.filterMap_cons, h x (List.mem_cons_self ..), es_fm f g r fun y hy => h y (List.mem_cons_of_mem _ hy)]
theorem es_pick_rev (xs : Array Value) : ((List.range xs.size).filterMap fun (m : Nat) => xs[((xs.size : Int) - 1 + (m : Int) * (-1)).toNat]?).toArray = xs.toList.reverse.toArray := by
  have h1 : ((List.range xs.size).filterMap fun (m : Nat) => xs[((xs.size : Int) - 1 + (m : Int) * (-1)).toNat]?) = (List.range xs.size).filterMap fun (m : Nat) => (xs.toList.reverse.toArray)[((0 : Nat) + (m : Int) * 1).toNat]? := by
    have e0 : ∀ m ∈ List.range xs.size, xs[((xs.size : Int) - 1 + (m : Int) * (-1)).toNat]? = (xs.toList.reverse.toArray)[((0 : Nat) + (m : Int) * 1).toNat]? := by
      intro m hm
      have hm' : m < xs.size := List.mem_range.mp hm
      rw [show ((xs.size : Int) - 1 + (m : Int) * (-1)).toNat = xs.size - 1 - m by omega, show (((0 : Nat) : Int) + (m : Int) * 1).toNat = m by omega]
      have e1 : (xs.toList.reverse.toArray)[m]? = xs.toList.reverse[m]? := List.getElem?_toArray ..
      rw [e1, List.getElem?_reverse (by rw [Array.length_toList]; exact hm'), Array.length_toList, Array.getElem?_toList]
    exact es_fm _ _ _ e0
  rw [h1]
  have := pick_gen xs.toList.reverse.toArray 0 xs.size
  rw [this]
  rw [List.drop_zero, List.take_of_length_le (by rw [List.length_reverse, Array.length_toList]; exact Nat.le_refl _)]
theorem es_tuple_rev {t sl : Addr} {items : Array Value} {vl vu vs : Value} {Q : Value → Shared → Prop} (ht : IsTup s.heap t items) (hs : s.heap.IsSliceOf sl vl vu vs) (pl : IsPart vl none) (pu : IsPart vu none) (ps : IsPart vs (some (-1)))
    (h : Q (.ref s.heap.objs.size) { s with heap := s.heap.push { cls := .type "tuple", data := .seq items.toList.reverse.toArray } })
    (hsz : items.size ≤ sizeLine) : wpAny (model prog w) A (getItem (.ref t) (.ref sl)) Q E s := by
  have htake : sizeOk (.seq items.toList.reverse.toArray) := by
    show items.toList.reverse.toArray.size ≤ sizeLine
    rw [List.size_toArray, List.length_reverse, Array.length_toList]
    exact hsz
  obtain ⟨os, hos, hcs, hds⟩ := id hs
  have hTs : s.TypeIs (.ref sl) "slice" := ⟨os, hos, hcs⟩
  unfold getItem
  try with_reducible refine wpAny_holding ?_
  first | refine wpAny_bind (wpAny_pure ?_) | skip
  refine wpAny_bind (wpAny_sequenceKey ht.typeIs (by decide) ?_)
  refine wpAny_bind (wpAny_callSpecial?_slot (name := Str.ofString "__getitem__") ht.typeIs PyProof.Rows.slot_tuple_getitem
    (wpAny_call_entry PyProof.Rows.slot_tuple_getitem ht.typeIs entry_tuple_getitem ?_ (args_tuple_getitem _ _)))
  show wpAny _ _ (Builtin.Tuple.tupleItemsOf (.ref t) >>= _) _ _ s
  refine wpAny_bind (tupleItemsOf_ ht ?_)
  refine wpAny_bind (wpAny_typeOf hTs ?_)
  rw [if_pos (by decide)]
  refine wpAny_bind (es_applied_rev hs pl pu ps ?_)
  have hno : ¬ (((((items.size : Int) - 1) == 0) && ((-1 : Int) == 1) && (items.size == items.size)) = true) := by
    rw [show ((-1 : Int) == 1) = false from rfl, Bool.and_false, Bool.false_and]
    exact Bool.false_ne_true
  show wpAny _ _ (if (((((items.size : Int) - 1) == 0) && ((-1 : Int) == 1) && (items.size == items.size)) = true) then _ else _) _ _ s
  rw [if_neg hno, es_pick_rev]
  first
    | exact wpAny_bind (m := Builtin.Tuple.tupleExact _) (wpAny_newObj_type (wpAny_pure ⟨_, rfl, wpAny_pure h⟩) htake)
    | exact wpAny_bind (m := Builtin.Tuple.tupleExact _) (wpAny_newObj_type (wpAny_bind (wpAny_pure (wpAny_pure ⟨_, rfl, wpAny_pure h⟩))) htake)
    | exact wpAny_bind (wpAny_bind (m := Builtin.Tuple.tupleExact _) (wpAny_newObj_type (wpAny_pure (wpAny_pure ⟨_, rfl, wpAny_pure h⟩)) htake))
    | exact wpAny_bind (wpAny_bind (m := Builtin.Tuple.tupleExact _) (wpAny_newObj_type (wpAny_pure ⟨_, rfl, wpAny_pure h⟩) htake))
end
end HT
namespace Es
open PySem PySem.Spec PyProof.Rows L2 Evl
section
variable {X : Cx}
def tRevT (K : PySem.W.Frag) (te : TE) : TE := fun σ H Q => te σ H fun x H1 => ∃ a xs, x = .ref a ∧ SqT K H1 a xs ∧ ∀ p, H1 p = none → Q (.ref p) (upd H1 p (.tup xs.reverse))
theorem pe_revT {e : Expr} {te : TE} {k : Nat} {p1 p2 p3 pos : Pos} (he : PE X e te) : PE X (.Subscript e (.Slice none none (some (.UnaryOp .USub (.Constant (.int 1) k p1) p2)) p3) pos) (tRevT X.K te) := by
  refine ⟨fun pins s σ H Q I h => ?_⟩
  refine Subscript_ (thn (he.run pins s σ H _ I h) fun v s1 ⟨x, H1, I1, r1, q1⟩ => ?_)
  obtain ⟨a, xs, ex, hx, q⟩ := q1
  subst ex
  cases r1
  have hst : PO X (some (.UnaryOp .USub (.Constant (.int 1) k p1) p2)) (tPart (tUn (rU fun i => .int (-i)) (tC (.int 1)))) := po_some (pe_un un_neg pe_int)
  refine wpAny_Slice (thn (po_none.run pins s1 σ H1 (fun o H2 => o = none ∧ H2 = H1) I1 ⟨rfl, rfl⟩) fun vl s2 ⟨l, H2, I2, pl, el, e2⟩ => ?_)
  subst el e2
  refine thn (po_none.run pins s2 σ H2 (fun o H3 => o = none ∧ H3 = H2) I2 ⟨rfl, rfl⟩) fun vu s3 ⟨u, H3, I3, pu, eu, e3⟩ => ?_
  subst eu e3
  refine thn (hst.run pins s3 σ H3 (fun o H4 => o = some (-1) ∧ H4 = H3) I3 ⟨1, rfl, -1, rfl, rfl, rfl⟩) fun vs s4 ⟨o, H4, I4, ps, eo, e4⟩ => ?_
  subst eo e4
  have I5 : Inv X pins σ H4 { s4 with heap := s4.heap.push { cls := .type "slice", data := .fields #[vl, vu, vs] } } := I4.kept (t' := s4.toks) fun b ob q => Heap.get?_push_of_some _ q
  obtain ⟨its, r, ht, hz⟩ := I5.tuple hx
  have hlen := r.length
  show wpAny (model X.prog X.w) X.A (subscriptTail e (.Slice none none (some (.UnaryOp .USub (.Constant (.int 1) k p1) p2)) p3) (.ref a) (.ref s4.heap.objs.size)) (EP X pins σ Q) X.xe { s4 with heap := s4.heap.push { cls := .type "slice", data := .fields #[vl, vu, vs] } }
  refine tail_any (ops := [.ref a, .ref s4.heap.objs.size]) ht.typeIs (PyProof.Rows.slot_tuple_getitem.lookup) ?_ (by with_unfolding_all rfl)
  refine HT.es_tuple_rev ht (Heap.IsSliceOf.new _ vl vu vs) pl pu ps ?_ (by rw [List.size_toArray]; omega)
  refine ⟨.ref _, _, I5.laid (t' := s4.toks) (o := .tup xs.reverse) (fun b ob q => Heap.get?_push_of_some _ q) (Nat.le_refl _) ?_, rfl, q _ (I5.hok.fresh (Nat.le_refl _))⟩
  exact ⟨by rw [List.length_reverse]; exact hz, _, r.reverse, ⟨_, Heap.get?_push_size _ rfl, rfl, _, rfl⟩⟩
/-- z * 8 -/
def rep8 (z : Str) : Str := ⟨(List.replicate 8 z.cps).foldl (· ++ ·) #[]⟩
theorem rep8_len (z : Str) : (rep8 z).length = 8 * z.length := by
  show (#[] ++ z.cps ++ z.cps ++ z.cps ++ z.cps ++ z.cps ++ z.cps ++ z.cps ++ z.cps).size = 8 * z.cps.size
  rw [Array.size_append, Array.size_append, Array.size_append, Array.size_append, Array.size_append, Array.size_append, Array.size_append, Array.size_append]
  show 0 + z.cps.size + z.cps.size + z.cps.size + z.cps.size + z.cps.size + z.cps.size + z.cps.size + z.cps.size = _
  omega
def rMul8 : R2 := fun x y H Q => ∃ z : Str, x = .str z ∧ y = .int 8 ∧ 1 ≤ z.length ∧ z.length ≤ 1000 ∧ Q (.str (rep8 z)) H
theorem op_mul8 : OpR X (binaryOp .Mult) rMul8 := by
  intro pins s σ H x y v u Q I rx ry h
  obtain ⟨z, rfl, rfl, h1, h2, q⟩ := h
  obtain ⟨t, rfl⟩ := rx
  obtain ⟨t', rfl⟩ := ry
  have e : ((8 : Int) == 1 || z.length == 0) = false := by
    rw [show ((8 : Int) == 1) = false from rfl, Bool.false_or]
    exact beq_eq_false_iff_ne.mpr (by omega)
  have ht : Builtin.Str.tooLong (z.length * (8 : Int).toNat) = false := by
    refine decide_eq_false fun hh => ?_
    have : z.length * (8 : Int).toNat ≤ sizeLine := sz_of (by show z.length * 8 ≤ 100000; omega)
    omega
  refine P.mul_str (by decide) (fun _ _ => ?_) (fun _ _ => ht) ?_
  · show ¬ ((z.length : Int) > (2 ^ 63 - 1) / 8)
    omega
  · rw [if_neg (by decide), e]
    exact ⟨sz_of (by show (rep8 z).length ≤ 100000; rw [rep8_len z]; omega), .str (rep8 z), H, I.tok _, ⟨_, rfl⟩, q⟩
end
theorem all_app (es : List PyData) : ∀ ds : List PyData, PyData.showableAll (ds ++ es) = (PyData.showableAll ds && PyData.showableAll es) ∧ PyData.leavesShortAll 30 (ds ++ es) = (PyData.leavesShortAll 30 ds && PyData.leavesShortAll 30 es) ∧
      PyData.bulkAll (ds ++ es) = PyData.bulkAll ds + PyData.bulkAll es ∧ PyData.depthAll (ds ++ es) = max (PyData.depthAll ds) (PyData.depthAll es)
  | [] => by
    refine ⟨rfl, rfl, ?_, ?_⟩
    · show PyData.bulkAll es = 0 + PyData.bulkAll es
      omega
    · show PyData.depthAll es = max 0 (PyData.depthAll es)
      omega
  | x :: r => by
    obtain ⟨i1, i2, i3, i4⟩ := all_app es r
    refine ⟨?_, ?_, ?_, ?_⟩
    · show (x.showable && PyData.showableAll (r ++ es)) = (x.showable && PyData.showableAll r && PyData.showableAll es)
      rw [i1, Bool.and_assoc]
    · show (x.leavesShort 30 && PyData.leavesShortAll 30 (r ++ es)) = (x.leavesShort 30 && PyData.leavesShortAll 30 r && PyData.leavesShortAll 30 es)
      rw [i2, Bool.and_assoc]
    · show x.bulk + 1 + PyData.bulkAll (r ++ es) = x.bulk + 1 + PyData.bulkAll r + PyData.bulkAll es
      omega
    · show max x.depth (PyData.depthAll (r ++ es)) = max (max x.depth (PyData.depthAll r)) (PyData.depthAll es)
      omega
theorem all_rev : ∀ ds : List PyData, PyData.showableAll ds.reverse = PyData.showableAll ds ∧ PyData.leavesShortAll 30 ds.reverse = PyData.leavesShortAll 30 ds ∧ PyData.bulkAll ds.reverse = PyData.bulkAll ds ∧ PyData.depthAll ds.reverse = PyData.depthAll ds
  | [] => ⟨rfl, rfl, rfl, rfl⟩
  | x :: r => by
    obtain ⟨i1, i2, i3, i4⟩ := all_rev r
    obtain ⟨a1, a2, a3, a4⟩ := all_app [x] r.reverse
    rw [List.reverse_cons]
    refine ⟨?_, ?_, ?_, ?_⟩
    · rw [a1, i1]
      show (PyData.showableAll r && (x.showable && true)) = (x.showable && PyData.showableAll r)
      rw [Bool.and_true, Bool.and_comm]
    · rw [a2, i2]
      show (PyData.leavesShortAll 30 r && (x.leavesShort 30 && true)) = (x.leavesShort 30 && PyData.leavesShortAll 30 r)
      rw [Bool.and_true, Bool.and_comm]
    · rw [a3, i3]
      show PyData.bulkAll r + (x.bulk + 1 + 0) = x.bulk + 1 + PyData.bulkAll r
      omega
    · rw [a4, i4]
      show max (PyData.depthAll r) (max x.depth 0) = max x.depth (PyData.depthAll r)
      omega
theorem Fits.rev {n : Nat} {ds : List PyData} (h : Fits n ds) : Fits n ds.reverse := by
  obtain ⟨i1, i2, i3, i4⟩ := all_rev ds
  unfold Fits
  rw [i1, i2, i3, i4]
  exact h
theorem DdAll.rev {p : Option Sx} {H : Hp} : ∀ {vs : List V} {ds : List PyData}, DdAll p H vs ds → DdAll p H vs.reverse ds.reverse
  | _, _, .nil => .nil
  | _, _, .cons h r => by
    rw [List.reverse_cons, List.reverse_cons]
    exact (DdAll.rev r).append (.cons h .nil)
section
variable {S : Sx} {K : PySem.W.Frag} {σ : L2.St} {H : Hp} {te tf : TE} {ta : TA} {k j : Int} {D E : PyData → Prop} {L M : List PyData → Prop}
/-- t[lo:hi] of a tuple at a name, any bounds -/
theorem evp_cutG {i : Nat} {a : Addr} {ds : List PyData} {n : Nat} {tl th : TO} {lo hi : Option Int} (h : σ[i]? = some (some (.ref a))) (hd : Dd (some S) H (.ref a) (.tuple ds)) (f : Fits n ds)
    (hlo : ∀ H1 (Q : Option Int → Hp → Prop), Q lo H1 → tl σ H1 Q) (hhi : ∀ H1 (Q : Option Int → Hp → Prop), Q hi H1 → th σ H1 Q) : EvP S 0 (tSl (rSlA K) (tVar i) tl th) σ H (Tu n) := by
  intro H1 c x P c0 c1 Q q
  have hd1 := hd.xp x
  cases hd1 with
  | @tup _ xs _ na ha hxs =>
    refine ⟨.ref a, h, hlo H1 _ (hhi H1 _ ⟨a, xs, rfl, st_of ha, fun _ => ?_, fun _ t nt => ?_⟩)⟩
    · exact q _ _ H1 (Xp.refl _ _) (P.more (by omega)) (.tup na ha hxs) ⟨ds, rfl, f⟩
    · have e := Ex.new (o := .tup (cutV xs lo hi)) nt
      have hc : DdAll (some S) H1 (cutV xs lo hi) ((ds.drop (HT.sIx xs.length 0 lo)).take (HT.sIx xs.length xs.length hi - HT.sIx xs.length 0 lo)) := (hxs.drop _).take _
      exact q _ _ _ (Xp.ex e) ((P.up e).more (by omega)) (.tup (P.sn nt) upd_same (hc.up e)) ⟨_, rfl, (f.sub.1 _).sub.2 _⟩
theorem evp_rev {i : Nat} {a : Addr} {ds : List PyData} {n : Nat} (h : σ[i]? = some (some (.ref a))) (hd : Dd (some S) H (.ref a) (.tuple ds)) (f : Fits n ds) : EvP S 0 (tRevT K (tVar i)) σ H (Tu n) := by
  intro H1 c x P c0 c1 Q q
  have hd1 := hd.xp x
  cases hd1 with
  | @tup _ xs _ na ha hxs =>
    refine ⟨.ref a, h, a, xs, rfl, st_of ha, fun t nt => ?_⟩
    have e := Ex.new (o := .tup xs.reverse) nt
    exact q _ _ _ (Xp.ex e) ((P.up e).more (by omega)) (.tup (P.sn nt) upd_same (hxs.rev.up e)) ⟨_, rfl, f.rev⟩
theorem evl_two {A n : Nat} (h : EvPL S k te σ H (fun ds => AllFit n ds ∧ ds.length = A)) (hk : 0 ≤ k) (hA : A ≤ 1000) : EvPL S k (tOp rRep te (tC (.int 2))) σ H (fun ds => AllFit n ds ∧ ds.length = A + A) := by
  intro H1 c x P c0 c1 Q q
  refine h H1 c x P c0 c1 _ fun l vs ds H2 x2 P2 nl hl hds hD => ?_
  have l1 := hds.length
  have d1 := hD.2
  refine ⟨l, 2, vs, rfl, rfl, hl, by decide, by decide, sz_of (by show vs.length * 2 ≤ 100000; omega), fun a na => ?_⟩
  have e := Ex.new (o := .lst (List.replicate 2 vs).flatten) na
  have ev : (List.replicate 2 vs).flatten = vs ++ vs := by
    show vs ++ (vs ++ []) = vs ++ vs
    rw [List.append_nil]
  refine q a _ (ds ++ ds) _ (x2.trans (Xp.ex e)) (P2.up e) (P2.ne na) (by show upd H2 a (.lst (List.replicate 2 vs).flatten) a = some (.lst (vs ++ vs)); rw [upd_same, ev]) ((hds.append hds).up e) ⟨hD.1.app hD.1, by rw [List.length_append, d1]⟩
theorem evl_cut {i : Nat} {l : Addr} {vs : List V} {ds : List PyData} {n A : Nat} {u : Int} (h : σ[i]? = some (some (.ref l))) (nl : l ≠ S.p) (hl : H l = some (.lst vs)) (hd : DdAll (some S) H vs ds) (hL : AllFit n ds) (hu : 0 ≤ u) (hA : A = min u.toNat ds.length) :
    EvPL S 0 (tSl (rSlL K) (tVar i) tNoPart (tPart (tC (.int u)))) σ H (fun ds => AllFit n ds ∧ ds.length = A) := by
  intro H1 c x P c0 c1 Q q
  have hl1 := x _ _ nl hl
  have l1 := hd.length
  refine ⟨.ref l, h, u, rfl, l, vs, rfl, sq_of hl1, fun t nt => ?_⟩
  have e := Ex.new (o := .lst (cutV vs none (some u))) nt
  have hc : DdAll (some S) H1 (cutV vs none (some u)) (ds.take (min u.toNat ds.length)) := by
    unfold cutV
    rw [HT.sIx_none, List.drop_zero, Nat.sub_zero, show (some u) = some ((u.toNat : Nat) : Int) by rw [Int.toNat_of_nonneg hu], HT.sIx_nat, l1]
    exact (hd.xp x).take _
  refine q t _ _ _ (Xp.ex e) ((P.up e).more (by omega)) (P.ne nt) upd_same (hc.up e) ⟨fun d hd => hL d (List.mem_of_mem_take hd), ?_⟩
  rw [List.length_take, hA]
  omega
end
theorem PotS.tn {S : Sx} {H : Hp} {c : Int} (P : PotS S H c) {a : Addr} {xs : List V} (n : a ≠ S.p) (h : H a = some (.tup xs)) : ¬ out (some S) a := by
  rintro (z | z)
  · exact n z
  · obtain ⟨ys, e⟩ := P.2 a z
    rw [h] at e
    cases e
mutual
theorem TrAt.dd {S : Sx} {H : Hp} {c : Int} (P : PotS S H c) : ∀ {v : V} {t : Tr}, TrAt S.p H v t → Dd (some S) H v t.toD
  | _, _, .leaf n h => .tup (P.tn n h) h (.cons (.str _) (.cons (.str _) .nil))
  | _, _, .node n h r => .tup (P.tn n h) h (.cons (.str _) (TrAll.dd P r))
theorem TrAll.dd {S : Sx} {H : Hp} {c : Int} (P : PotS S H c) : ∀ {vs : List V} {ts : List Tr}, TrAll S.p H vs ts → DdAll (some S) H vs (Tr.toDs ts)
  | _, _, .nil => .nil
  | _, _, .cons h r => .cons (TrAt.dd P h) (TrAll.dd P r)
end
end Es
namespace Es
open PySem PySem.Spec PyProof.Rows L2 Evl
section
variable {X : Cx}
/-- list(a text) -/
def rListStr : List V → Hp → VK → Prop := fun xs H Q => ∃ z : Str, xs = [.str z] ∧ z.length ≤ 1000 ∧ ∀ l, H l = none → Q (.ref l) (upd H l (.lst (z.cps.toList.map fun c => V.str ⟨#[c]⟩)))
theorem cr_listStr (hc : X.calm = true) : CallR X (.type "list") rListStr := by
  intro pins s σ H xs us Q I r h
  obtain ⟨z, rfl, hz, q⟩ := h
  obtain ⟨u, rfl, ru⟩ := vals1 r
  obtain ⟨t, rfl⟩ := ru
  have hn : z.cps.size ≤ sizeLine := sz_of (by show z.length ≤ 100000; omega)
  refine call_list_str (I.ok.hd hc) z t (hn := hn) (fun h' tk acc' c' hk hS hacc => ?_)
  refine ⟨.ref s.heap.objs.size, upd H s.heap.objs.size (.lst (z.cps.toList.map fun c => V.str ⟨#[c]⟩)), I.laid hk (Nat.le_refl _) (show ObjOk X.prog X.w _ _ _ (.lst (z.cps.toList.map fun c => V.str ⟨#[c]⟩)) from ⟨?_, acc'.toList, c', ?_, ?_⟩), rfl, q _ (I.hok.fresh (Nat.le_refl _))⟩
  · rw [List.length_map, Array.length_toList]
    exact hn
  · refine vals_of_at (by rw [List.length_map, Array.length_toList, Array.length_toList, hacc.1]) fun j x w h1 h2 => ?_
    obtain ⟨c, u, hcu, rfl⟩ := hacc.2 j w (by rw [← Array.getElem?_toList]; exact h2)
    rw [List.getElem?_map, Array.getElem?_toList, hcu] at h1
    cases h1
    exact ⟨_, rfl⟩
  · rw [Array.toArray_toList]
    exact hS
end
/-! words: short texts of ordinary signs -/
def Wd (x : Str) : Prop := x.length ≤ 8 ∧ (x.cps.toList.all fun c => decide (c < 16 ^ 8)) = true
def txts (ws : List Str) : List V := ws.map V.str
def dtxts (ws : List Str) : List PyData := ws.map PyData.str
theorem fits_words : ∀ ws : List Str, (∀ x ∈ ws, Wd x) → PyData.showableAll (dtxts ws) = true ∧ PyData.hasDictAll (dtxts ws) = false ∧ PyData.leavesShortAll 30 (dtxts ws) = true ∧ PyData.bulkAll (dtxts ws) ≤ 9 * ws.length ∧ PyData.depthAll (dtxts ws) = 0
  | [], _ => ⟨rfl, rfl, rfl, Nat.le_refl _, rfl⟩
  | x :: r, h => by
    obtain ⟨a1, a2, a3, a4, a5⟩ := fits_words r fun y hy => h y (List.mem_cons_of_mem _ hy)
    obtain ⟨b1, b2⟩ := h x (List.mem_cons_self ..)
    refine ⟨?_, ?_, ?_, ?_, ?_⟩
    · show (true && PyData.showableAll (dtxts r)) = true
      rw [a1]
      rfl
    · show (false || PyData.hasDictAll (dtxts r)) = false
      rw [a2]
      rfl
    · show ((x.cps.toList.all fun c => decide (c < 16 ^ 8)) && PyData.leavesShortAll 30 (dtxts r)) = true
      rw [b2, a3]
      rfl
    · show x.cps.size + 1 + PyData.bulkAll (dtxts r) ≤ 9 * (r.length + 1)
      have : x.cps.size ≤ 8 := b1
      omega
    · show max 0 (PyData.depthAll (dtxts r)) = 0
      rw [a5]
      rfl
theorem dp_words {K : PySem.W.Frag} {H : Hp} : ∀ ws : List Str, DpAll K H (txts ws) (dtxts ws)
  | [] => .nil
  | x :: r => .cons (.str x) (dp_words r)

/-! cut tuples -/
theorem cut_nn (xs : List V) (n m : Nat) : cutV xs (some (n : Int)) (some (m : Int)) = (xs.drop n).take (m - n) := by
  unfold cutV
  rw [HT.sIx_nat, HT.sIx_nat]
  by_cases h : n ≤ xs.length
  · rw [Nat.min_eq_left h]
    by_cases h2 : m ≤ xs.length
    · rw [Nat.min_eq_left h2]
    · rw [Nat.min_eq_right (by omega), List.take_of_length_le (by rw [List.length_drop]; omega), List.take_of_length_le (by rw [List.length_drop]; omega)]
  · have e : min n xs.length = xs.length := Nat.min_eq_right (by omega)
    rw [e, List.drop_of_length_le (Nat.le_refl _), List.drop_of_length_le (i := n) (by omega), List.take_nil, List.take_nil]
theorem cut_n (xs : List V) (n : Nat) : cutV xs (some (n : Int)) none = xs.drop n := by
  unfold cutV
  rw [HT.sIx_nat, HT.sIx_none]
  by_cases h : n ≤ xs.length
  · rw [Nat.min_eq_left h, List.take_of_length_le (by rw [List.length_drop]; omega)]
  · have e : min n xs.length = xs.length := Nat.min_eq_right (by omega)
    rw [e, List.drop_of_length_le (Nat.le_refl _), List.drop_of_length_le (i := n) (by omega), List.take_nil]
theorem cut_0 (xs : List V) (m : Nat) : cutV xs none (some (m : Int)) = xs.take m := by
  unfold cutV
  rw [HT.sIx_nat, HT.sIx_none, List.drop_zero, Nat.sub_zero]
  by_cases h : m ≤ xs.length
  · rw [Nat.min_eq_left h]
  · have e : min m xs.length = xs.length := Nat.min_eq_right (by omega)
    rw [e, List.take_of_length_le (Nat.le_refl _), List.take_of_length_le (i := m) (by omega)]
section
variable {K : PySem.W.Frag} {σ : L2.St} {H : Hp} {te tf : TE}
theorem sl_join {Q : VK} {a : Addr} {xs : List V} {lo hi : Option Int} (ha : H a = some (.tup xs)) (q : ∀ b H2, Ex H H2 → H2 b = some (.tup (cutV xs lo hi)) → Q (.ref b) H2) : rSlA K (.ref a) lo hi H Q := by
  refine ⟨a, xs, rfl, st_of ha, fun h => q a H (Ex.refl _) ?_, fun _ p np => q p _ (Ex.new np) upd_same⟩
  unfold cutV
  rw [h.1, h.2, List.drop_zero, Nat.sub_zero, List.take_length]
  exact ha
theorem cat_join {Q : VK} {a b : Addr} {xs ys : List V} (ha : H a = some (.tup xs)) (hb : H b = some (.tup ys)) (hl : xs.length + ys.length ≤ 100000) (q : ∀ c H2, Ex H H2 → H2 c = some (.tup (xs ++ ys)) → Q (.ref c) H2) : rCatA K (.ref a) (.ref b) H Q := by
  refine ⟨a, b, xs, ys, rfl, rfl, st_of ha, st_of hb, sz_of hl, fun z => q b H (Ex.refl _) ?_, fun _ z => q a H (Ex.refl _) ?_, fun _ _ p np => q p _ (Ex.new np) upd_same⟩
  · rw [z]
    exact hb
  · rw [z, List.append_nil]
    exact ha
/-- a tuple, new or not -/
def EvW (te : TE) (σ : L2.St) (H : Hp) (xs : List V) : Prop := ∀ H1, Ex H H1 → ∀ Q : VK, (∀ p H2, Ex H1 H2 → H2 p = some (.tup xs) → Q (.ref p) H2) → te σ H1 Q
theorem ew_var {i : Nat} {a : Addr} {xs : List V} (h : σ[i]? = some (some (.ref a))) (ha : H a = some (.tup xs)) : EvW (tVar i) σ H xs := fun H1 e _ q => ⟨.ref a, h, q a H1 (Ex.refl _) (e _ _ ha)⟩
theorem ew_u {xs : List V} (h : EvU te σ H xs) : EvW te σ H xs := fun H1 e Q q => h H1 e Q fun p H2 _ e2 h2 => q p H2 e2 h2
theorem ew_cat {xs ys : List V} (h1 : EvW te σ H xs) (h2 : EvW tf σ H ys) (hl : xs.length + ys.length ≤ 100000) : EvW (tOp (rCatA K) te tf) σ H (xs ++ ys) := fun H1 e Q q =>
  h1 H1 e _ fun a H2 e2 ha => h2 H2 (e.trans e2) _ fun b H3 e3 hb => cat_join (e3 _ _ ha) hb hl fun c H4 e4 hc => q c H4 ((e2.trans e3).trans e4) hc
theorem ew_sl {xs : List V} {tl th : TO} {lo hi : Option Int} (h : EvW te σ H xs) (h1 : EvO tl σ H lo) (h2 : EvO th σ H hi) : EvW (tSl (rSlA K) te tl th) σ H (cutV xs lo hi) := fun H1 e Q q =>
  h H1 e _ fun a H2 e2 ha => h1 H2 (e.trans e2) _ fun H3 e3 => h2 H3 ((e.trans e2).trans e3) _ fun H4 e4 => sl_join (e4 _ _ (e3 _ _ ha)) fun b H5 e5 hb => q b H5 (((e2.trans e3).trans e4).trans e5) hb
theorem ew_is {xs ys : List V} (h : EvW te σ H xs) (e : xs = ys) : EvW te σ H ys := by
  subst e
  exact h
theorem s_asgW {D : Ends} {i : Nat} {xs : List V} (h : EvW te σ H xs) (k : ∀ p H1, Ex H H1 → H1 p = some (.tup xs) → D.nx (σ.set i (some (.ref p))) H1) : tAsg te (gName i) D σ H := h H (Ex.refl H) _ k
theorem q_asgW {D : Ends} {tz : TS} {i : Nat} {xs : List V} (h : EvW te σ H xs) (k : ∀ p H1, Ex H H1 → H1 p = some (.tup xs) → tz D (σ.set i (some (.ref p))) H1) : tSeq (tAsg te (gName i)) tz D σ H := s_asgW (D := { D with nx := tz D }) h k
end
end Es
namespace Es
open PySem PySem.Spec PyProof.Rows L2 Evl
section
variable {X : Cx}
/-- two lists joined: the new one's place is none of the interpreter's own -/
def rCat1 : R2 := fun x y H Q => ∃ l b xs zs, x = .ref l ∧ y = .ref b ∧ H l = some (.lst xs) ∧ H b = some (.lst zs) ∧ xs.length + zs.length ≤ 1000 ∧ ∀ p, p ≠ sysModules → H p = none → Q (.ref p) (upd H p (.lst (xs ++ zs)))
theorem op_cat1 : OpR X (binaryOp .Add) rCat1 := by
  intro pins s σ H x y v u Q I rx ry h
  obtain ⟨l, b, xs, zs, rfl, rfl, ha, hb, hz, q⟩ := h
  cases rx
  cases ry
  obtain ⟨_, is, n, r, len1, e⟩ := I.lstM ha
  obtain ⟨_, js, m, r', len2, e'⟩ := I.lstM hb
  have sz : is.toArray.size + js.toArray.size ≤ sizeLine := by
    rw [List.size_toArray, List.size_toArray]
    exact sz_of (by omega)
  refine PySem.P.add_list e e' ?_ sz
  rw [show is.toArray ++ js.toArray = (is ++ js).toArray by simp]
  refine ⟨.ref _, _, I.lnew (t' := s.toks) (r.append r') ?_, rfl, q _ (Nat.ne_of_gt I.big) I.fresh⟩
  rw [List.length_append]
  exact sz_of (by omega)
/-- [v] * 12, likewise -/
def rRep12 : R2 := fun x y H Q => ∃ l v, x = .ref l ∧ y = .int 12 ∧ H l = some (.lst [v]) ∧ ∀ p, p ≠ sysModules → H p = none → Q (.ref p) (upd H p (.lst (List.replicate 12 v)))
theorem op_rep12 : OpR X (binaryOp .Mult) rRep12 := by
  intro pins s σ H x y v u Q I rx ry h
  obtain ⟨l, z, rfl, rfl, ha, q⟩ := h
  cases rx
  obtain ⟨t, rfl⟩ := ry
  obtain ⟨_, is, n, r, _, e⟩ := I.lstM ha
  obtain ⟨y, rfl, ry⟩ := vals1 r
  have many : Vals (List.replicate 12 z) (List.replicate 12 y) := .cons ry (.cons ry (.cons ry (.cons ry (.cons ry (.cons ry (.cons ry (.cons ry (.cons ry (.cons ry (.cons ry (.cons ry .nil)))))))))))
  refine wpAny_binaryOp_repeat_ref (T := "list") (U := "int") (by decide) ⟨_, e, rfl⟩ (fun s' => typeIs_int s' 12 t) noFill_list_mul F.fills_int_mul F.slot_int_rmul repeat_list F.slot_int_index.lookup ?_
  refine call_meets F.slot_int_rmul (typeIs_int s 12 t) F.entry_int_rmul (F.args_int_rmul_2 _ _) (int___rmul___int_list 12 t l #[y] n) ⟨e, rfl, ⟨_, e, rfl⟩, ?_⟩
  refine call_meets F.slot_list_mul ⟨_, e, rfl⟩ F.entry_list_mul (F.args_list_mul_2 _ _) (AutoListH.list___mul___list_int_3 l #[y] n 12 t (by decide) (by show ¬ 1 * 12 > (2 ^ 63 - 1) / 8; decide) (by show ¬ Builtin.List.listTooLong (1 * 12) = true; decide)) ⟨e, ?_⟩
  exact ⟨.ref _, _, I.lnew (t' := s.toks) many (by show 12 ≤ sizeLine; decide), rfl, q _ (Nat.ne_of_gt I.big) I.fresh⟩
end
end Es
namespace K52
open PySem PySem.Spec PyProof.Rows L2 Evl Es
def topS (i : Nat) : Stmt := PySem.Challenge.pw_errorspans_k52_sources_that_are_none.main.body.getD i (.Pass ⟨0, 0, 0, 0⟩)
def clsB : Stmt → List Stmt
  | .ClassDef _ _ _ body _ _ _ _ _ _ _ => body
  | _ => []
def metS (i j : Nat) : Stmt := (clsB (topS i)).getD j (.Pass ⟨0, 0, 0, 0⟩)
abbrev sBadI : Stmt := metS 2 0
abbrev sTok : Stmt := topS 6
abbrev sIsE : Stmt := topS 12
abbrev sCnt : Stmt := topS 13
abbrev sFit : Stmt := topS 14
abbrev sShow : Stmt := topS 16
abbrev sPart : Stmt := topS 17
abbrev sWI : Stmt := metS 22 0
abbrev sWCho : Stmt := metS 22 1
abbrev sWSeq : Stmt := metS 22 2
abbrev sWPart : Stmt := metS 22 3
abbrev sJoin : Stmt := topS 23
abbrev sLeaf : Stmt := topS 24
abbrev sExOf : Stmt := topS 25
abbrev sRead : Stmt := topS 26
abbrev sPot : Stmt := topS 28
abbrev sTake : Stmt := topS 29
abbrev sOf : Stmt := topS 30
abbrev sNames : Stmt := topS 31
abbrev sExpr : Stmt := topS 32
abbrev sWrit : Stmt := topS 33
abbrev sBad : Stmt := topS 34
abbrev sWrong : Stmt := topS 35
abbrev sBent : Stmt := topS 36
abbrev sRight : Stmt := topS 37
abbrev sLaw : Stmt := topS 38
end K52
namespace K52
open PySem PySem.Spec PyProof.Rows L2 Evl Es
theorem scTok : FnScope ["value", "letter"] ["value"] (defScope sTok) := ⟨rfl, rfl, rfl, by decide +kernel, rfl, by decide +kernel, by decide +kernel⟩
theorem scIsE : FnScope ["value"] ["value"] (defScope sIsE) := ⟨rfl, rfl, rfl, by decide +kernel, rfl, by decide +kernel, by decide +kernel⟩
abbrev nCnt : List Str := ["value", "levels", "total", "part", "count"]
theorem scCnt : FnScope nCnt ["value", "levels"] (defScope sCnt) := ⟨rfl, rfl, rfl, by decide +kernel, rfl, by decide +kernel, by decide +kernel⟩
theorem scFit : FnScope ["value"] ["value"] (defScope sFit) := ⟨rfl, rfl, rfl, by decide +kernel, rfl, by decide +kernel, by decide +kernel⟩
section
variable {P : Program} {w : World} {K : PySem.W.Frag} {mg : Str → Option Value} {base : Heap}
theorem ok_tok {f : Addr} {fd : FuncData} {k : Nat} {tL : Tok} {tM : Tok} (F : Fun K "is_token" "is_token" sTok f fd) (mi : mg "isinstance" = none) (ms : mg "str" = none) (ml : mg "len" = none) (ma : mg "all" = none)
    (mL : mg "LETTERS" = some (.str abc tL)) (mM : mg "MOST_LETTERS" = some (.int 8 tM)) : FnOk P w K mg base CX0 (k + 1) f fd ["value"] spTok := by
  refine F.ok scTok (fun vs H Q E h => ?_) (fun cdv A outer s H vs Q E hr h => ?_)
  · obtain ⟨p, v, d, rfl, _⟩ := h
    rfl
  · obtain ⟨p, v, d, rfl, hd, hf, q⟩ := h
    refine ⟨_, pss_cons (ps_if (pt_not (pt_val (pe_callB call_isi (by rfl) mi boot_isinstance (pa_cons (pv 0) (pa_cons (pe_bltn (v := .ty "str") (by rfl) ms PyProof.Rows.boot_str rfl) pa_nil))))) (pss_one (ps_ret pe_bl)) pss_nil)
      (pss_one (ps_ret (pe_and (pe_chain op_le op_le pe_int (pe_callB call_len (by rfl) ml PySem.boot_len (pa_cons (pv 0) pa_nil)) (pe_glob (v := .int 8) (by rfl) mM ⟨_, rfl⟩))
        (pe_one (pe_callB (cr_all rfl) (by rfl) ma boot_all (pa_cons
          (pe_lc (own := [("letter", 1)]) (g := gName 1) (tt := tYes) rfl scTok.nd (pi_str (pv 0)) (blkOk_by (N := ["value", "letter"]) (sc := defScope sTok) (own := [("letter", 1)]) (by decide +kernel)) (fun _ _ _ _ _ => pg_name (i := 1) scTok.nd rfl (Or.inl rfl)) (fun _ _ _ _ _ => pts_nil)
            (fun _ _ _ _ _ => pe_cmpR op_in_sign (pv 1) (pe_glob (v := .str abc) (by rfl) mL ⟨_, rfl⟩) (by rfl))) pa_nil)))))), ?_⟩
    refine q_when (et_not (et_test (ev_cb (ea_cons (ev_var rfl) (ea_cons ev_c ea_nil)) hd.isiS))) (fun hb H1 e1 => ?_) (fun hb H1 e1 => ?_)
    · refine s_ret ev_c fun H2 e2 => ?_
      have hi : tokD d = false := by
        cases d <;> first | rfl | cases hb
      have := q H2 (e1.trans e2)
      rw [hi] at this
      exact this
    · cases hd with
      | str z =>
        have hz := fit_len hf
        refine s_ret (ev_andV (ev_chain ev_c (ev_cb (ea_cons (ev_var rfl) ea_nil) (rc_lenS2 (by omega))) rv_I0 (fun _ => ev_c) (fun _ => rv_I0))
          (fun _ => ev_cbL (el_lcS (fun c => .bl (decide (c ∈ abc.cps.toList))) (ev_var rfl) (by show z.length ≤ 40000; omega) (fun _ => rfl) (fun c H2 _ _ => ev_op (ev_var rfl) ev_c rv_inSign))
            (fun p H2 hp _ => rc_all (bs := z.cps.toList.map fun c => decide (c ∈ abc.cps.toList)) (by rw [hp, List.map_map]; rfl)))) (fun H2 e2 => ?_)
        exact q H2 (e1.trans e2)
      | _ => cases hb
theorem ok_fit {f : Addr} {fd : FuncData} {k : Nat} {tk : Tok} (F : Fun K "has_fitting_parts" "has_fitting_parts" sFit f fd) (ml : mg "len" = none) (mP : mg "MOST_PARTS" = some (.int 6 tk)) : FnOk P w K mg base CX0 (k + 1) f fd ["value"] spFit := by
  refine F.ok scFit (fun vs H Q E h => ?_) (fun cdv A outer s H vs Q E hr h => ?_)
  · obtain ⟨p, a, xs, h, ds, rfl, _⟩ := h
    rfl
  · obtain ⟨p, a, xs, h, ds, rfl, ha, hd, q⟩ := h
    refine ⟨_, pss_cons (ps_if (pt_cmpR (op_inT hr.units) (pe_ix ix_tup (pv 0) pe_int (fun _ _ => rfl)) (pe_tup (pa_cons pe_str (pa_cons pe_str pa_nil))) (by rfl)) (pss_one (ps_ret (pe_cmpR op_eq (pe_callB call_len_seq (by rfl) ml PySem.boot_len (pa_cons (pv 0) pa_nil)) pe_int (nomark _)))) pss_nil)
      (pss_one (ps_ret (pe_and (pe_cmpR (op_inT hr.units) (pe_ix ix_tup (pv 0) pe_int (fun _ _ => rfl)) (pe_tup (pa_cons pe_str (pa_cons pe_str pa_nil))) (by rfl))
        (pe_one (pe_chain op_le op_le pe_int (pe_op op_sub (pe_callB call_len_seq (by rfl) ml PySem.boot_len (pa_cons (pv 0) pa_nil)) pe_int) (pe_glob (v := .int 6) (by rfl) mP ⟨_, rfl⟩)))))), ?_⟩
    have l := hd.length
    have l' : xs.length = ds.length + 1 := l
    obtain ⟨v, vs, rfl⟩ : ∃ v vs, xs = v :: vs := by
      cases xs with
      | nil => cases l
      | cons v vs => exact ⟨v, vs, rfl⟩
    have hv : Dd p H v h := by
      cases hd
      assumption
    have hin : ∀ (z1 z2 : Str) H1, Ex H H1 → Ev (tOp (rInT K) (tOp (rIxT K) (tVar 0) (tC (.int 0))) (tTup (tCons (tC (.str z1)) (tCons (tC (.str z2)) tNil)))) [some (.ref a)] H1 (.bl (inD h [z1, z2])) := by
      intro z1 z2 H1 e1
      refine ev_opU (x := v) (ev_op (ev_var rfl) ev_c (rv_ixT (st_of (e1 _ _ ha)) (atI_nat (j := 0) rfl))) (eu_tup (ea_cons ev_c (ea_cons ev_c ea_nil)) (by show 2 ≤ 100000; decide)) fun t H2 ht e2 H3 e3 Q q => ?_
      exact ⟨p, h, t, [z1, z2], rfl, st_of (e3 _ _ ht), hv.up ((e1.trans e2).trans e3), q H3 (Ex.refl _)⟩
    have len : ∀ {H1 : Hp}, Ex H H1 → Ev (tCB (rLenS K) (tCons (tVar 0) tNil)) [some (.ref a)] H1 (.int ((v :: vs).length : Int)) := fun e1 =>
      ev_cb (ea_cons (ev_var rfl) ea_nil) (fun H3 e3 Q q => ⟨a, v :: vs, rfl, .inr (st_of (e3 _ _ (e1 _ _ ha))), q H3 (Ex.refl _)⟩)
    refine q_when (et_test (hin "repeat" "optional" H (Ex.refl _))) (fun hb H1 e1 => ?_) (fun hb H1 e1 => ?_)
    · refine s_ret (ev_op (len e1) ev_c (rv_eq rfl)) fun H2 e2 => ?_
      have e : fitD h ds.length = decide (V.int (((v :: vs).length : Nat) : Int) = V.int 2) := by
        unfold fitD
        rw [hb]
        show decide (ds.length = 1) = _
        exact decide_eq_decide.mpr ⟨fun z => by rw [show ((v :: vs).length : Int) = 2 by omega], fun z => by have := V.int.inj z; omega⟩
      have := q H2 (e1.trans e2)
      rw [e] at this
      exact this
    · refine s_ret (ev_andV (hin "sequence" "choice" H1 e1) (fun _ => ev_chain ev_c (ev_op (len e1) ev_c rv_I0) rv_I0 (fun _ => ev_c) (fun _ => rv_I0))) fun H2 e2 => ?_
      have e : fitD h ds.length = (inD h ["sequence", "choice"] && (decide ((2 : Int) ≤ ((v :: vs).length : Int) - 1) && decide (((v :: vs).length : Int) - 1 ≤ 6))) := by
        unfold fitD
        rw [hb]
        show (inD h ["sequence", "choice"] && (decide (2 ≤ ds.length) && decide (ds.length ≤ 6))) = _
        rw [show decide (2 ≤ ds.length) = decide ((2 : Int) ≤ ((v :: vs).length : Int) - 1) from decide_eq_decide.mpr ⟨fun z => by omega, fun z => by omega⟩, show decide (ds.length ≤ 6) = decide (((v :: vs).length : Int) - 1 ≤ 6) from decide_eq_decide.mpr ⟨fun z => by omega, fun z => by omega⟩]
      have := q H2 (e1.trans e2)
      rw [e] at this
      exact this
end
section
variable {P : Program} {w : World} {K : PySem.W.Frag} {mg : Str → Option Value} {base : Heap}
theorem ok_cnt {f fT fF aL : Addr} {fd fdT fdF : FuncData} {tk : Tok} (F : Fun K "count_leaves" "count_leaves" sCnt f fd) (b : Binds K fd ["value", "levels"] []) (g : mg "count_leaves" = some (.ref f)) (kT : PySem.W.keepIn K (.ref fT) = true) (GT : ∀ k, FnOk P w K mg base CX0 (k + 1) fT fdT ["value"] spTok) (bT : Binds K fdT ["value"] []) (gT : mg "is_token" = some (.ref fT))
    (kF : PySem.W.keepIn K (.ref fF) = true) (GF : ∀ k, FnOk P w K mg base CX0 (k + 1) fF fdF ["value"] spFit) (bF : Binds K fdF ["value"] []) (gF : mg "has_fitting_parts" = some (.ref fF)) (mi : mg "isinstance" = none) (mt : mg "tuple" = none) (ml : mg "len" = none)
    (mL : mg "LEAF_KINDS" = some (.ref aL)) (hL : ∀ H, SqT K H aL [.str "token", .str "block"]) (mM : mg "MOST_LEAVES" = some (.int 16 tk)) : ∀ D : Nat, FnOk P w K mg base CX0 (D + 1) f fd ["value", "levels"] (spCnt D) := by
  intro D
  induction D with
  | zero => exact ⟨fun vs H Q E ⟨_, _, _, _, _, h, _⟩ => absurd h (Nat.not_lt_zero _), fun _ _ _ _ _ _ _ _ _ _ _ _ _ ⟨_, _, _, _, _, h, _⟩ => absurd h (Nat.not_lt_zero _)⟩
  | succ D ih =>
    refine F.ok scCnt (fun vs H Q E h => ?_) (fun cdv A outer s H vs Q E hr h => ?_)
    · obtain ⟨p, v, d, L, rfl, _⟩ := h
      rfl
    · obtain ⟨p, v, d, L, rfl, hLD, hd, hf, q⟩ := h
      refine ⟨_, pss_cons (ps_if (PW.pt (pw_or (pt_cmpR op_eq (pv 1) pe_int (nomark _)) (pw_or (pt_not (pt_val (pe_callB call_isi (by rfl) mi boot_isinstance (pa_cons (pv 0) (pa_cons (pe_bltn (v := .ty "tuple") (by rfl) mt (by decide +kernel) rfl) pa_nil)))))
            (pw_or1 (pt_cmpR op_lt (pe_callB call_len_seq (by rfl) ml PySem.boot_len (pa_cons (pv 0) pa_nil)) pe_int (nomark _)))))) (pss_one (ps_ret pe_int)) pss_nil)
        (pss_cons (ps_if (pt_cmpR (op_inT hr.units) (pe_ix ix_tup (pv 0) pe_int (fun _ _ => rfl)) (pe_glob (v := .ref aL) (by rfl) mL rfl) (by rfl))
            (pss_one (ps_ret (pe_ifExp (PW.pt (pw_and (pt_cmpR op_eq (pe_callB call_len_seq (by rfl) ml PySem.boot_len (pa_cons (pv 0) pa_nil)) pe_int (nomark _)) (pw_and1 (pt_val (pe_call (GT D) hr (by rfl) gT kT bT .nil pass0 (pa_cons (pe_ix ix_tup (pv 0) pe_int (fun _ _ => rfl)) pa_nil)))))) pe_int pe_int))) pss_nil)
        (pss_cons (ps_if (pt_not (pt_val (pe_call (GF D) hr (by rfl) gF kF bF .nil pass0 (pa_cons (pv 0) pa_nil)))) (pss_one (ps_ret pe_int)) pss_nil)
        (pss_cons (ps_set (i := 2) scCnt.nd rfl (.inl rfl) pe_int)
        (pss_cons (ps_for PassesOwn.never rfl (pi_tup (pe_slice sl_tup (pv 0) (po_some pe_int) po_none)) (pg_name (i := 3) scCnt.nd rfl (.inl rfl))
          (pss_cons (ps_set (i := 4) scCnt.nd rfl (.inl rfl) (pe_call ih hr (by rfl) g F.kp b .nil pass0 (pa_cons (pv 3) (pa_cons (pe_op op_sub (pv 1) pe_int) pa_nil))))
          (pss_cons (ps_if (pt_cmpR op_eq (pv 4) pe_int (nomark _)) (pss_one (ps_ret pe_int)) pss_nil)
          (pss_cons (ps_aug (i := 2) scCnt.nd rfl (.inl rfl) (pv 4) ip_add)
          (pss_one (ps_if (pt_cmpR op_gt (pv 2) (pe_glob (v := .int 16) (by rfl) mM ⟨_, rfl⟩) (nomark _)) (pss_one (ps_ret (pv 2))) pss_nil))))))
        (pss_one (ps_ret (pv 2))))))), ?_⟩
      refine q_when (et_or (b := !isTup d || smallD d) (et_test (ev_op (ev_var rfl) ev_c (rv_eq rfl))) (fun _ => et_or (et_not (et_test (ev_cb (ea_cons (ev_var rfl) (ea_cons ev_c ea_nil)) hd.isiT))) (fun ht => ?_))) (fun hb H1 e1 => ?_) (fun hb H1 e1 => ?_)
      · cases hd with
        | @tup a xs ds na ha hds =>
          have l := hds.length
          refine et_is (et_test (ev_op (ev_cb (ea_cons (ev_var rfl) ea_nil) (fun H3 e3 Q q => ⟨a, xs, rfl, .inr (st_of (e3 _ _ ha)), q H3 (Ex.refl _)⟩)) ev_c rv_I0)) ?_
          show decide ((xs.length : Int) < 2) = decide ((ds.length : Int) < 2)
          rw [l]
        | _ => cases ht
      · refine s_ret ev_c fun H2 e2 => ?_
        have e : cnt L d = 0 := by
          cases L with
          | zero => rfl
          | succ L =>
            have hb' : (decide (V.int ((L + 1 : Nat) : Int) = V.int 0) || (!isTup d || smallD d)) = true := hb
            rw [decide_eq_false (fun z => by have := V.int.inj z; omega), Bool.false_or] at hb'
            match d, hb' with
            | .none, _ => rfl
            | .bool _, _ => rfl
            | .int _, _ => rfl
            | .str _, _ => rfl
            | .list _, _ => rfl
            | .dict _, _ => rfl
            | .tuple [], _ => rfl
            | .tuple [_], _ => rfl
            | .tuple (h :: x :: r), z =>
              have z' : (!true || decide (((h :: x :: r).length : Int) < 2)) = true := z
              rw [Bool.not_true, Bool.false_or] at z'
              have := of_decide_eq_true z'
              rw [List.length_cons, List.length_cons] at this
              omega
        have := q H2 (e1.trans e2)
        rw [e] at this
        exact this
      have hb' : (decide (V.int (L : Int) = V.int 0) || (!isTup d || smallD d)) = false := hb
      obtain ⟨L, rfl⟩ : ∃ M, L = M + 1 := by
        cases L with
        | zero => cases hb'
        | succ M => exact ⟨M, rfl⟩
      rw [Bool.or_eq_false_iff, Bool.or_eq_false_iff] at hb'
      cases hd with
      | @tup a xs ds na ha hds =>
        have l := hds.length
        have hs : decide ((ds.length : Int) < 2) = false := hb'.2.2
        have hs2 := of_decide_eq_false hs
        obtain ⟨h, x, r, rfl⟩ : ∃ h x r, ds = h :: x :: r := by
          match ds, hs2 with
          | [], z => exact absurd (by decide : ((0 : Nat) : Int) < 2) z
          | [_], z => exact absurd (by decide : ((1 : Nat) : Int) < 2) z
          | h :: x :: r, _ => exact ⟨h, x, r, rfl⟩
        obtain ⟨v0, v1, vr, rfl⟩ : ∃ v0 v1 vr, xs = v0 :: v1 :: vr := by
          match xs, l with
          | v0 :: v1 :: vr, _ => exact ⟨v0, v1, vr, rfl⟩
        have l2 : vr.length = r.length := by
          have : vr.length + 1 + 1 = r.length + 1 + 1 := l
          omega
        have hv0 : Dd p H v0 h := by
          cases hds
          assumption
        have hrest : DdAll p H (v1 :: vr) (x :: r) := by
          cases hds
          assumption
        have hv1 : Dd p H v1 x := by
          cases hrest
          assumption
        have fs := fit_fits hf
        have fx : Fit 2000 x := fits_get fs (i := 1) rfl
        have hcnt : cnt (L + 1) (.tuple (h :: x :: r)) = if inD h ["token", "block"] then (if decide (r.length = 0) && tokD x then 1 else 0) else if fitD h (r.length + 1) then loop (cnt L) (x :: r) 0 else 0 := rfl
        -- a leaf
        refine q_when (et_test (b := inD h ["token", "block"]) (fun H2 e2 Q q => ⟨.ref a, rfl, a, _, 0, v0, rfl, rfl, st_of (e2 _ _ (e1 _ _ ha)), atI_nat (j := 0) rfl, p, h, aL, ["token", "block"], rfl, hL H2, hv0.up (e1.trans e2), q H2 (Ex.refl _)⟩)) (fun hk H2 e2 => ?_) (fun hk H2 e2 => ?_)
        · have th := hv1.up (e1.trans e2)
          refine s_ret (v := .int (if decide (r.length = 0) && tokD x then 1 else 0)) (ev_if (et_and (b := tokD x) (et_test (ev_op (ev_cb (ea_cons (ev_var rfl) ea_nil) (fun H3 e3 Q q => ⟨a, _, rfl, .inr (st_of (e3 _ _ (e2 _ _ (e1 _ _ ha)))), q H3 (Ex.refl _)⟩)) ev_c (rv_eq rfl)))
            (fun _ => et_test (ev_call (ea_cons (ev_op (ev_var rfl) ev_c (rv_ixT (st_of (e2 _ _ (e1 _ _ ha))) (atI_nat (j := 1) rfl))) ea_nil) (fun H3 e3 Q q E => ⟨p, v1, x, rfl, th.up e3, fx, fun H4 e4 => q H4 e4⟩))))
            (fun hc => ev_is ev_c ?_) (fun hc => ev_is ev_c ?_)) fun H3 e3 => ?_
          · have hc' : (decide (V.int ((v0 :: v1 :: vr).length : Int) = V.int 2) && tokD x) = true := hc
            rw [Bool.and_eq_true] at hc'
            have h1 := V.int.inj (of_decide_eq_true hc'.1)
            rw [List.length_cons, List.length_cons] at h1
            rw [decide_eq_true (show r.length = 0 by omega), hc'.2]
            rfl
          · have hc' : (decide (V.int ((v0 :: v1 :: vr).length : Int) = V.int 2) && tokD x) = false := hc
            by_cases hr0 : r.length = 0
            · rw [decide_eq_true (show V.int ((v0 :: v1 :: vr).length : Int) = V.int 2 by rw [List.length_cons, List.length_cons, l2, hr0]; rfl), Bool.true_and] at hc'
              rw [hc', Bool.and_false]
              rfl
            · rw [decide_eq_false hr0]
              rfl
          · have := q H3 ((e1.trans e2).trans e3)
            rw [hcnt, hk] at this
            exact this
        -- parts
        have e12 := e1.trans e2
        refine q_when (et_not (et_test (ev_call (ea_cons (ev_var rfl) ea_nil) (z := .bl (fitD h (r.length + 1))) (fun H3 e3 Q q E => ⟨p, a, _, h, x :: r, rfl, e3 _ _ (e12 _ _ ha), hds.up (e12.trans e3), fun H4 e4 => q H4 e4⟩)))) (fun hfit H3 e3 => ?_) (fun hfit H3 e3 => ?_)
        · refine s_ret ev_c fun H4 e4 => ?_
          have hf0 : fitD h (r.length + 1) = false := by
            revert hfit
            cases fitD h (r.length + 1) <;> simp
          have := q H4 ((e12.trans e3).trans e4)
          rw [hcnt, hk, hf0] at this
          exact this
        have hf1 : fitD h (r.length + 1) = true := by
          revert hfit
          cases fitD h (r.length + 1) <;> simp
        have e13 := e12.trans e3
        have hq : ∀ H4, Ex H H4 → Q (.int (loop (cnt L) (x :: r) 0)) H4 := fun H4 e4 => by
          have := q H4 e4
          rw [hcnt, hk, hf1] at this
          exact this
        refine q_asg ev_c fun H4 e4 => ?_
        have ha4 := (e13.trans e4) _ _ ha
        refine ⟨.ref a, rfl, 1, rfl, a, _, rfl, st_of ha4, ?_, fun sl nsl => ?_⟩
        · rw [show HT.sIx (v0 :: v1 :: vr).length 0 (some (1 : Int)) = min 1 (v0 :: v1 :: vr).length from HT.sIx_nat _ 0 1, List.length_cons]
          omega
        rw [cut_1]
        have e5 := Ex.new (o := .tup (v1 :: vr)) nsl
        refine ⟨sl, rfl, ⟨v1 :: vr, st_of upd_same⟩, for_tup (fun i σ H' => Ex H H' ∧ H' sl = some (.tup (v1 :: vr)) ∧ ∃ (t : Int) (y3 y4 : Option V), 0 ≤ t ∧ t ≤ 16 ∧ loop (cnt L) (x :: r) 0 = loop (cnt L) ((x :: r).drop i) t ∧ σ = [some (.ref a), some (.int ((L + 1 : Nat) : Int)), some (.int t), y3, y4])
          ⟨(e13.trans e4).trans e5, upd_same, 0, none, none, by decide, by decide, rfl, rfl⟩ (fun i σ H' _ z => st_of z.2.1) ?_ ?_⟩
        · rintro i u σ H' hu ⟨ei, hsl, t, y3, y4, t0, t1, hlp, rfl⟩
          obtain ⟨d, hdi, hud⟩ := hrest.get hu
          have hfd : Fit 2000 d := fits_get (fs.sub.1 1) hdi
          rw [drop_get hdi] at hlp
          have hstep : loop (cnt L) (d :: (x :: r).drop (i + 1)) t = if cnt L d = 0 then 0 else if 16 < t + cnt L d then t + cnt L d else loop (cnt L) ((x :: r).drop (i + 1)) (t + cnt L d) := rfl
          have hpos : 0 ≤ cnt L d := cnt_nn L d
          have eL : ((L + 1 : Nat) : Int) - 1 = (L : Int) := by omega
          refine q_asg (v := .int (cnt L d)) (ev_call (ea_cons (ev_var rfl) (ea_cons (ev_op (ev_var rfl) ev_c rv_I0) ea_nil)) (fun H3 e3 Q q E => ⟨p, u, d, L, by rw [eL]; rfl, by omega, hud.up (ei.trans e3), hfd, fun H4 e4 => q H4 e4⟩)) fun H5 e6 => ?_
          refine q_when (et_test (ev_op (ev_var rfl) ev_c (rv_eq rfl))) (fun hz H6 e7 => ?_) (fun hz H6 e7 => ?_)
          · have hz' : cnt L d = 0 := V.int.inj (of_decide_eq_true hz)
            refine s_ret ev_c fun H7 e8 => ?_
            have := hq H7 (((ei.trans e6).trans e7).trans e8)
            rw [hlp, hstep, if_pos hz'] at this
            exact this
          · have hz' : cnt L d ≠ 0 := fun z => of_decide_eq_false hz (by rw [z])
            rw [hstep, if_neg hz'] at hlp
            refine q_aug (f := fun a b => a + b) rfl (ev_var rfl) fun H7 e8 => ?_
            have e68 := (e6.trans e7).trans e8
            refine s_when (et_test (ev_op (ev_var rfl) ev_c rv_I0)) (fun hg H8 e9 => ?_) (fun hg H8 e9 => ?_)
            · have hg' : t + cnt L d > 16 := of_decide_eq_true hg
              refine s_ret (ev_var rfl) fun H9 e10 => ?_
              have := hq H9 (((ei.trans e68).trans e9).trans e10)
              rw [hlp, if_pos hg'] at this
              exact this
            · have hg' : ¬ t + cnt L d > 16 := of_decide_eq_false hg
              rw [if_neg hg'] at hlp
              exact ⟨(ei.trans e68).trans e9, e9 _ _ (e68 _ _ hsl), t + cnt L d, _, _, by omega, by omega, hlp, rfl⟩
        · rintro σ H' ⟨ei, hsl, t, y3, y4, t0, t1, hlp, rfl⟩
          have hlen : (v1 :: vr).length = (x :: r).length := by rw [List.length_cons, List.length_cons, l2]
          rw [hlen, List.drop_length] at hlp
          refine ⟨.int t, rfl, ?_⟩
          have := hq H' ei
          rw [hlp] at this
          exact this
      | _ => cases hb'.2.1
end
section
variable {P : Program} {w : World} {K : PySem.W.Frag} {mg : Str → Option Value} {base : Heap}
theorem ok_isE {f fC : Addr} {fd fdC : FuncData} {k : Nat} {t1 t2 : Tok} (F : Fun K "is_expression" "is_expression" sIsE f fd) (G : FnOk P w K mg base CX0 k fC fdC ["value", "levels"] (spCnt 9)) (b : Binds K fdC ["value", "levels"] []) (g : mg "count_leaves" = some (.ref fC)) (kp : PySem.W.keepIn K (.ref fC) = true)
    (mV : mg "MOST_LEVELS" = some (.int 8 t1)) (mM : mg "MOST_LEAVES" = some (.int 16 t2)) : FnOk P w K mg base CX0 (k + 1) f fd ["value"] spIsE := by
  refine F.ok scIsE (fun vs H Q E h => ?_) (fun cdv A outer s H vs Q E hr h => ?_)
  · obtain ⟨p, v, d, rfl, _⟩ := h
    rfl
  · obtain ⟨p, v, d, rfl, hd, hf, q⟩ := h
    refine ⟨_, pss_one (ps_ret (pe_chain op_le op_le pe_int (pe_call G hr (by rfl) g kp b .nil pass0 (pa_cons (pv 0) (pa_cons (pe_glob (v := .int 8) (by rfl) mV ⟨_, rfl⟩) pa_nil))) (pe_glob (v := .int 16) (by rfl) mM ⟨_, rfl⟩))), ?_⟩
    exact s_ret (ev_chain ev_c (ev_call (z := .int (cnt 8 d)) (ea_cons (ev_var rfl) (ea_cons ev_c ea_nil)) (fun H3 e3 Q q E => ⟨p, v, d, 8, rfl, by decide, hd.up e3, hf, fun H4 e4 => q H4 e4⟩)) rv_I0 (fun _ => ev_c) (fun _ => rv_I0)) fun H2 e2 => q H2 e2
end
end K52
namespace Es
open PySem PySem.Spec PyProof.Rows L2 Evl
section
variable {K : PySem.W.Frag} {σ : L2.St} {H H' : Hp} {ta tb tc te tl : TE} {x y z v w : V}
/-- a tuple walked by a comprehension without tests -/
theorem el_lcW {xs ys : List V} {j : Nat} {vs : List Nat} (h : EvW tl σ H xs) (hl : ys.length = xs.length) (hz : xs.length ≤ 40000) (hw : ∀ x, wipe ((wipe σ vs).set j (some x)) vs = wipe σ vs)
    (he : ∀ (i : Nat) (x y : V) H1, Ex H H1 → xs[i]? = some x → ys[i]? = some y → Ev te ((wipe σ vs).set j (some x)) H1 y) : EvL (tLc (iTup K tl) (gName j) tYes te vs) σ H ys := by
  intro H0 e Q q
  refine h H0 e _ fun p H1 e1 hp => ⟨p, rfl, ⟨xs, st_of hp⟩, fun D hD => ?_⟩
  refine lc_it (walk_tup (xs := xs)) (fun i H' => Ex H1 H' ∧ H' D = some (.lst (ys.take i))) ⟨Ex.new hD, upd_same⟩ (fun i H' _ z => st_of (z.1 _ _ hp)) (fun i x Ha Hb hi p' y => ?_) (fun Hc p' => ?_)
  · obtain ⟨rfl, hx⟩ := y
    refine ⟨hw _, ?_⟩
    show te _ Hb _
    obtain ⟨u, hu⟩ : ∃ u, ys[i]? = some u := ⟨_, List.getElem?_eq_getElem (by rw [hl]; exact hi)⟩
    refine he i x u Hb ((e.trans e1).trans p'.1) hx hu Hb (Ex.refl _) _ fun Hc ec => ⟨_, ec D _ p'.2, ?_, Ex.mut (p'.1.trans ec) hD, ?_⟩
    · rw [List.length_take]
      exact sz_lt (by omega)
    · rw [upd_same, List.take_add_one, hu]
      rfl
  · have p2 := p'.2
    rw [List.take_of_length_le (by omega)] at p2
    exact q D Hc (fresh_back e1 hD) (e1.trans p'.1) p2
def rJoin (K : PySem.W.Frag) : V → List V → Hp → VK → Prop := fun x xs H Q => ∃ a p, ∃ ys : List Str, x = .str a ∧ xs = [.ref p] ∧ (SqL K H p (ys.map V.str) ∨ SqT K H p (ys.map V.str)) ∧ (ys.map (·.length)).sum + ys.length * a.length ≤ 16777216 ∧ Q (.str (Txt.join a ys)) H
theorem ev_join {a : Str} {ys : List Str} (h : Ev ta σ H (.str a)) (hl : EvL tb σ H (ys.map V.str)) (hz : (ys.map (·.length)).sum + ys.length * a.length ≤ 16777216) : Ev (tM1 (rJoin K) ta tb) σ H (.str (Str.join a ys)) := by
  intro H1 e Q q
  refine h H1 e _ fun H2 e2 => ⟨⟨a, rfl⟩, hl H2 (e.trans e2) _ fun p H3 hp e3 h3 => ⟨a, p, ys, rfl, rfl, .inl (sq_of h3), hz, ?_⟩⟩
  rw [TL.join_eq]
  exact q H3 (e2.trans e3)
/-- texts one behind the other -/
inductive EvJ (σ : L2.St) (H : Hp) : List TE → List Str → Prop
  | nil : EvJ σ H [] []
  | cons {t : TE} {ts : List TE} {y : Str} {ys : List Str} : Ev t σ H (.str y) → EvJ σ H ts ys → EvJ σ H (t :: ts) (y :: ys)
def catJ (acc : Str) : List Str → Str
  | [] => acc
  | y :: ys => catJ (acc ++ y) ys
theorem catJ_len : ∀ (ys : List Str) (acc : Str), (catJ acc ys).length = acc.length + (ys.map (·.length)).sum
  | [], acc => rfl
  | y :: ys, acc => by
    show (catJ (acc ++ y) ys).length = _
    rw [catJ_len ys, Str.length_append, List.map_cons, List.sum_cons, Nat.add_assoc]
theorem js_run {ts : List TE} {ys : List Str} (h : EvJ σ H ts ys) : ∀ (acc : Str) (H1 : Hp) (Q : Str → Hp → Prop), Ex H H1 → acc.length + (ys.map (·.length)).sum ≤ 100000 → (∀ H2, Ex H1 H2 → Q (catJ acc ys) H2) → tJs ts acc σ H1 Q := by
  induction h with
  | nil => exact fun acc H1 Q _ _ q => q H1 (Ex.refl _)
  | @cons t ts y ys ht _ ih =>
    intro acc H1 Q e hz q
    rw [List.map_cons, List.sum_cons] at hz
    refine ht H1 e _ fun H2 e2 => ⟨y, rfl, sz_of (by rw [Str.length_append]; omega), ?_⟩
    exact ih (acc ++ y) H2 Q (e.trans e2) (by rw [Str.length_append]; omega) fun H3 e3 => q H3 (e2.trans e3)
theorem ev_js {ts : List TE} {ys : List Str} (h : EvJ σ H ts ys) (hz : (ys.map (·.length)).sum ≤ 100000) : Ev (fun σ H Q => tJs ts Str.empty σ H fun out H1 => Q (.str out) H1) σ H (.str (catJ Str.empty ys)) := fun H1 e Q q =>
  js_run h Str.empty H1 _ e (by show 0 + _ ≤ _; omega) fun H2 e2 => q H2 e2
theorem ev_fmt {y : Str} (h : Ev te σ H (.str y)) (hz : y.length ≤ 100000) : Ev (tFmt te) σ H (.str y) := fun H1 e Q q =>
  h H1 e _ fun H2 e2 => .inl ⟨y, rfl, sz_of hz, q H2 e2⟩
end
end Es
namespace Es
open PySem PySem.Spec PyProof.Rows L2 Evl
section
variable {p : Option Sx} {H : Hp}
theorem dd_leaf {v : V} {k n : Str} (h : Dd p H v (Tr.leaf k n).toD) : ∃ a, v = .ref a ∧ H a = some (.tup [.str k, .str n]) := by
  have h' : Dd p H v (.tuple [.str k, .str n]) := h
  cases h' with
  | @tup a xs _ na ha hxs =>
    cases hxs with
    | cons h1 r =>
      cases h1
      cases r with
      | cons h2 r2 =>
        cases h2
        cases r2
        exact ⟨a, rfl, ha⟩
theorem dd_node {v : V} {k : Str} {ps : List Tr} (h : Dd p H v (Tr.node k ps).toD) : ∃ a vs, v = .ref a ∧ H a = some (.tup (.str k :: vs)) ∧ DdAll p H vs (Tr.toDs ps) := by
  have h' : Dd p H v (.tuple (.str k :: Tr.toDs ps)) := h
  cases h' with
  | @tup a xs _ na ha hxs =>
    cases hxs with
    | @cons _ vs _ _ h1 r =>
      cases h1
      exact ⟨a, vs, rfl, ha, r⟩
theorem dd_kind {v : V} {t : Tr} (h : Dd p H v t.toD) : ∃ a vs, v = .ref a ∧ H a = some (.tup (.str t.kind :: vs)) := by
  cases t with
  | leaf k n =>
    obtain ⟨a, e, ha⟩ := dd_leaf h
    exact ⟨a, _, e, ha⟩
  | node k ps =>
    obtain ⟨a, vs, e, ha, _⟩ := dd_node h
    exact ⟨a, vs, e, ha⟩
end
def spShow (D : Nat) : Sp := fun vs H Q _ => ∃ (p : Option Sx) (v : V) (t : Tr), vs = [v] ∧ t.dep < D ∧ Dd p H v t.toD ∧ t.fine ∧ t.wid ≤ 40000 ∧ RetV (.str t.sh) H Q
def spPart (K : PySem.W.Frag) (D : Nat) : Sp := fun vs H Q _ => ∃ (p : Option Sx) (v : V) (t : Tr) (b : Addr) (zs : List Str), vs = [v, .ref b] ∧ SqT K H b (zs.map V.str) ∧ t.dep < D ∧ Dd p H v t.toD ∧ t.fine ∧ t.wid ≤ 40000 ∧ RetV (.str (if t.kind ∈ zs then "( " ++ t.sh ++ " )" else t.sh)) H Q
theorem in_strs (k : Str) : ∀ zs : List Str, inV (.str k) (zs.map V.str) = decide (k ∈ zs)
  | [] => rfl
  | z :: r => by
    show (eqV (.str z) (.str k) || inV (.str k) (r.map V.str)) = _
    rw [in_strs k r]
    show ((z == k) || decide (k ∈ r)) = _
    by_cases h : k = z
    · subst h
      rw [show (k == k) = true from beq_self_eq_true _, Bool.true_or]
      exact (decide_eq_true (List.mem_cons_self ..)).symm
    · rw [beq_eq_false_iff_ne.mpr (fun z => h z.symm), Bool.false_or]
      exact decide_eq_decide.mpr ⟨fun z => List.mem_cons_of_mem _ z, fun z => (List.mem_cons.mp z).elim (fun y => absurd y h) id⟩
theorem flatS (ys : List Str) : (ys.map V.str).all flatV = true := by
  rw [List.all_map]
  exact List.all_eq_true.mpr fun _ _ => rfl
theorem catJ3 (a b c : Str) : catJ Str.empty [a, b, c] = a ++ b ++ c := by
  show Str.empty ++ a ++ b ++ c = _
  rw [Str.empty_append]
theorem catJ5 (a b c d e : Str) : catJ Str.empty [a, b, c, d, e] = a ++ b ++ c ++ d ++ e := by
  show Str.empty ++ a ++ b ++ c ++ d ++ e = _
  rw [Str.empty_append]
theorem eq_str (a b : Str) : decide (V.str a = V.str b) = decide (a = b) := decide_eq_decide.mpr ⟨V.str.inj, fun e => by rw [e]⟩
end Es
namespace K52
open PySem PySem.Spec PyProof.Rows L2 Evl Es
abbrev nShow : List Str := ["expression", "kind", "part", "first", "last"]
theorem scShow : FnScope nShow ["expression"] (defScope sShow) := ⟨rfl, rfl, rfl, by decide +kernel, rfl, by decide +kernel, by decide +kernel⟩
abbrev nPart : List Str := ["part", "kinds", "shown"]
theorem scPart : FnScope nPart ["part", "kinds"] (defScope sPart) := ⟨rfl, rfl, rfl, by decide +kernel, rfl, by decide +kernel, by decide +kernel⟩
section
variable {P : Program} {w : World} {K : PySem.W.Frag} {mg : Str → Option Value} {base : Heap}
theorem ok_part {f fS : Addr} {fd dS : FuncData} {k D : Nat} (F : Fun K "show_part" "show_part" sPart f fd) (G : FnOk P w K mg base CX0 k fS dS ["expression"] (spShow D)) (b : Binds K dS ["expression"] []) (g : mg "show_expression" = some (.ref fS)) (kp : PySem.W.keepIn K (.ref fS) = true) :
    FnOk P w K mg base CX0 (k + 1) f fd ["part", "kinds"] (spPart K D) := by
  refine F.ok scPart (fun vs H Q E h => ?_) (fun cdv A outer s H vs Q E hr h => ?_)
  · obtain ⟨p, v, t, b, zs, rfl, _⟩ := h
    rfl
  · obtain ⟨p, v, t, kb, zs, rfl, hk, hD, hd, hf, hw, q⟩ := h
    refine ⟨_, pss_cons (ps_set (i := 2) scPart.nd rfl (.inl rfl) (pe_call G hr (by rfl) g kp b .nil pass0 (pa_cons (pv 0) pa_nil)))
      (pss_one (ps_ret (pe_ifExp (pt_cmpR op_in_seq (pe_ix ix_tup (pv 0) pe_int (fun _ _ => rfl)) (pv 1) (by rfl)) (pe_joined (.cons pe_str (.cons (pe_fmt (pv 2)) (.cons pe_str .nil)))) (pv 2)))), ?_⟩
    refine q_asg (v := .str t.sh) (ev_call (ea_cons (ev_var rfl) ea_nil) (fun H1 e1 Q q E => ⟨p, v, t, rfl, hD, hd.up e1, hf, hw, fun H2 e2 => q H2 e2⟩)) fun H1 e1 => ?_
    obtain ⟨a, vs, rfl, ha⟩ := dd_kind hd
    have hl := sh_len t hf
    refine s_ret (v := .str (if t.kind ∈ zs then "( " ++ t.sh ++ " )" else t.sh)) (ev_if (et_test (ev_op (ev_op (ev_var rfl) ev_c (rv_ixT (st_of (e1 _ _ ha)) (atI_nat (j := 0) rfl))) (ev_var rfl) (rv_isT (ex_t e1 hk) rfl (flatS zs)))) (fun hb => ?_) (fun hb => ?_)) fun H2 e2 => q H2 (e1.trans e2)
    · rw [in_strs] at hb
      rw [if_pos (of_decide_eq_true hb), ← catJ3]
      refine ev_js (.cons ev_c (.cons (ev_fmt (ev_var rfl) (by omega)) (.cons ev_c .nil))) ?_
      show 2 + (t.sh.length + (2 + 0)) ≤ 100000
      omega
    · rw [in_strs] at hb
      rw [if_neg (of_decide_eq_false hb)]
      exact ev_var rfl
theorem ok_show {f fP : Addr} {fd dP : FuncData} (F : Fun K "show_expression" "show_expression" sShow f fd) (b : Binds K fd ["expression"] []) (g : mg "show_expression" = some (.ref f)) (FP : Fun K "show_part" "show_part" sPart fP dP) (gP : mg "show_part" = some (.ref fP)) :
    ∀ D : Nat, FnOk P w K mg base CX0 (2 * D + 1) f fd ["expression"] (spShow D) := by
  intro D
  induction D with
  | zero => exact ⟨fun vs H Q E ⟨_, _, _, _, h, _⟩ => absurd h (Nat.not_lt_zero _), fun _ _ _ _ _ _ _ _ _ _ _ _ _ ⟨_, _, _, _, h, _⟩ => absurd h (Nat.not_lt_zero _)⟩
  | succ D ih =>
    have bP : Binds K dP ["part", "kinds"] [] := FP.binds fun _ _ _ _ _ _ us hl => match us, hl with | [_, _], _ => rfl
    have GP : FnOk P w K mg base CX0 (2 * D + 2) fP dP ["part", "kinds"] (spPart K D) := ok_part FP ih b g F.kp
    refine F.ok scShow (fun vs H Q E h => ?_) (fun cdv A outer s H vs Q E hr h => ?_)
    · obtain ⟨p, v, t, rfl, _⟩ := h
      rfl
    · obtain ⟨p, v, t, rfl, hD, hd, hf, hw, q⟩ := h
      have hr1 : Room (2 * D + 1) (A.deeper (envOfC "show_expression" (defScope sShow) s.heap.objs.size f cdv)) := hr.mono (by omega)
      refine ⟨_, pss_cons (ps_set (i := 1) scShow.nd rfl (.inl rfl) (pe_ix ix_tup (pv 0) pe_int (fun _ _ => rfl)))
        (pss_cons (ps_if (pt_cmpR op_eq (pv 1) pe_str (nomark _)) (pss_one (ps_ret (pe_ix ix_tup (pv 0) pe_int (fun _ _ => rfl)))) pss_nil)
        (pss_cons (ps_if (pt_cmpR op_eq (pv 1) pe_str (nomark _)) (pss_one (ps_ret (pe_joined (.cons pe_str (.cons (pe_fmt (pe_ix ix_tup (pv 0) pe_int (fun _ _ => rfl))) (.cons pe_str .nil)))))) pss_nil)
        (pss_cons (ps_if (pt_cmpR op_eq (pv 1) pe_str (nomark _)) (pss_one (ps_ret (pe_join pe_str
          (pe_lc (own := [("part", 2)]) (g := gName 2) (tt := tYes) rfl scShow.nd (pi_tup (pe_slice sl_tupA (pv 0) (po_some pe_int) po_none)) (blkOk_by (N := nShow) (sc := defScope sShow) (own := [("part", 2)]) (by decide +kernel)) (fun _ _ _ _ _ => pg_name (i := 2) scShow.nd rfl (Or.inl rfl)) (fun _ _ _ _ _ => pts_nil)
            (fun _ _ _ _ _ => pe_call GP hr (by rfl) gP FP.kp bP .nil pass0 (pa_cons (pv 2) (pa_cons (pe_tup (pa_cons pe_str (pa_cons pe_str pa_nil))) pa_nil))))))) pss_nil)
        (pss_cons (ps_if (pt_cmpR op_eq (pv 1) pe_str (nomark _)) (pss_one (ps_ret (pe_join pe_str
          (pe_lc (own := [("part", 2)]) (g := gName 2) (tt := tYes) rfl scShow.nd (pi_tup (pe_slice sl_tupA (pv 0) (po_some pe_int) po_none)) (blkOk_by (N := nShow) (sc := defScope sShow) (own := [("part", 2)]) (by decide +kernel)) (fun _ _ _ _ _ => pg_name (i := 2) scShow.nd rfl (Or.inl rfl)) (fun _ _ _ _ _ => pts_nil)
            (fun _ _ _ _ _ => pe_call GP hr (by rfl) gP FP.kp bP .nil pass0 (pa_cons (pv 2) (pa_cons (pe_tup (pa_cons pe_str pa_nil)) pa_nil))))))) pss_nil)
        (pss_cons (ps_asg (pe_ifExp (pt_cmpR op_eq (pv 1) pe_str (nomark _)) (pe_tup (pa_cons pe_str (pa_cons pe_str pa_nil))) (pe_tup (pa_cons pe_str (pa_cons pe_str pa_nil)))) (pg_tup rfl (pgs_cons (pg_name (i := 3) scShow.nd rfl (Or.inl rfl)) (pgs_cons (pg_name (i := 4) scShow.nd rfl (Or.inl rfl)) pgs_nil))))
        (pss_one (ps_ret (pe_joined (.cons (pe_fmt (pv 3)) (.cons pe_str (.cons (pe_fmt (pe_call ih hr1 (by rfl) g F.kp b .nil pass0 (pa_cons (pe_ix ix_tup (pv 0) pe_int (fun _ _ => rfl)) pa_nil))) (.cons pe_str (.cons (pe_fmt (pv 4)) .nil))))))))))))), ?_⟩
      obtain ⟨a, vs0, rfl, ha⟩ := dd_kind hd
      have hl := sh_len t hf
      refine q_asg (v := .str t.kind) (ev_op (ev_var rfl) ev_c (rv_ixT (st_of ha) (atI_nat (j := 0) rfl))) fun H1 e1 => ?_
      have hlit : ∀ (z : Str) (H2 : Hp) (σ : L2.St), σ[1]? = some (some (.str t.kind)) → EvT (tTest (tOp rEq (tVar 1) (tC (.str z)))) σ H2 (decide (t.kind = z)) := fun z H2 σ hσ => et_is (et_test (ev_op (ev_var hσ) ev_c (rv_eq rfl))) (eq_str _ _)
      refine q_when (hlit "token" H1 _ rfl) (fun h1 H2 e2 => ?_) (fun h1 H2 e2 => ?_)
      · have hk : t.kind = "token" := of_decide_eq_true h1
        cases t with
        | node k ps =>
          have hk' : k = "token" := hk
          subst hk'
          exact absurd hf.1 (by rintro (⟨h | h, _⟩ | ⟨h | h, _⟩) <;> exact absurd h (by decide +kernel))
        | leaf k n =>
          have hk' : k = "token" := hk
          subst hk'
          obtain ⟨a', e, ha'⟩ := dd_leaf hd
          cases e
          refine s_ret (ev_op (ev_var rfl) ev_c (rv_ixT (st_of (e2 _ _ (e1 _ _ ha'))) (atI_nat (j := 1) rfl))) fun H3 e3 => ?_
          exact q H3 ((e1.trans e2).trans e3)
      have e12 := e1.trans e2
      refine q_when (hlit "block" H2 _ rfl) (fun h2 H3 e3 => ?_) (fun h2 H3 e3 => ?_)
      · have hk : t.kind = "block" := of_decide_eq_true h2
        cases t with
        | node k ps =>
          have hk' : k = "block" := hk
          subst hk'
          exact absurd hf.1 (by rintro (⟨h | h, _⟩ | ⟨h | h, _⟩) <;> exact absurd h (by decide +kernel))
        | leaf k n =>
          have hk' : k = "block" := hk
          subst hk'
          obtain ⟨a', e, ha'⟩ := dd_leaf hd
          cases e
          have hn := tok_len hf.2
          refine s_ret (ev_js (.cons ev_c (.cons (ev_fmt (ev_op (ev_var rfl) ev_c (rv_ixT (st_of (e3 _ _ (e12 _ _ ha'))) (atI_nat (j := 1) rfl))) (by omega)) (.cons ev_c .nil))) ?_) fun H4 e4 => ?_
          · show 1 + (n.length + (1 + 0)) ≤ 100000
            omega
          · rw [catJ3]
            exact q H4 ((e12.trans e3).trans e4)
      have e13 := e12.trans e3
      cases t with
      | leaf k n =>
        exfalso
        have n1 : k ≠ "token" := of_decide_eq_false h1
        have n2 : k ≠ "block" := of_decide_eq_false h2
        have hm : k ∈ leafKinds := hf.1
        simp only [leafKinds, List.mem_cons, List.not_mem_nil, or_false] at hm
        exact hm.elim n1 n2
      | node k ps =>
      obtain ⟨hk, hfs⟩ := hf
      have hw' : 4 + Tr.wids ps ≤ 40000 := hw
      have hD' : Tr.deps ps + 1 < D + 1 := hD
      have hsum := shs_sum (inK k) ps hfs
      have hln := shs_len (inK k) ps
      obtain ⟨a', vs, ea, ha', hds⟩ := dd_node hd
      cases ea
      have hvl : vs.length = ps.length := by rw [hds.length, toDs_len]
      -- the parts, written
      have hlc : ∀ (zs : List Str) (tz : TE) (H4 : Hp) (σ : L2.St), Ex H H4 → σ[0]? = some (some (.ref a)) → σ.length = 5 → inK k = zs → (∀ H5 σ', EvU tz σ' H5 (zs.map V.str)) →
          EvL (tLc (iTup K (tSl (rSlA K) (tVar 0) (tPart (tC (.int 1))) tNoPart)) (gName 2) tYes (tCall (spPart K D) [] E0 (tCons (tVar 2) (tCons tz tNil))) [2]) σ H4 ((Tr.shs zs ps).map V.str) := by
        intro zs tz H4 σ e4 hσ hσl hz htz
        refine el_lcW (xs := vs) (ew_is (ew_sl (ew_var hσ (e4 _ _ ha')) (eo_some ev_c) eo_none) (cut_n _ 1)) (by rw [List.length_map, shs_len, hvl]) (by rw [hvl]; omega) ?_ ?_
        · intro x
          match σ, hσl with
          | [_, _, _, _, _], _ => rfl
        · intro i x y H5 e5 hx hy
          obtain ⟨d, hd1, hd2⟩ := hds.get hx
          obtain ⟨q1, hq1, rfl⟩ := toDs_get hd1
          rw [List.getElem?_map, shs_get zs hq1] at hy
          cases hy
          intro H6 e6 Q q
          have hv : ((wipe σ [2]).set 2 (some x))[2]? = some (some x) := by
            match σ, hσl with
            | [_, _, _, _, _], _ => rfl
          refine ⟨x, hv, htz H6 _ H6 (Ex.refl _) _ fun b H7 _ e7 hb => ⟨p, x, q1, b, zs, rfl, st_of hb, ?_, hd2.up (((e4.trans e5).trans e6).trans e7), fines_get hfs hq1, ?_, fun H8 e8 => q H8 (e7.trans e8)⟩⟩
          · have := deps_get hq1
            omega
          · have := wids_get hq1
            omega
      refine q_when (hlit "sequence" H3 _ rfl) (fun h3 H4 e4 => ?_) (fun h3 H4 e4 => ?_)
      · have hk' : k = "sequence" := of_decide_eq_true h3
        subst hk'
        refine s_ret (ev_join ev_c (hlc ["sequence", "choice"] _ H4 _ (e13.trans e4) rfl rfl rfl (fun H5 σ' => eu_tup (ea_cons ev_c (ea_cons ev_c ea_nil)) (by show 2 ≤ 100000; decide))) ?_) fun H5 e5 => ?_
        · show ((Tr.shs (inK "sequence") ps).map (·.length)).sum + (Tr.shs (inK "sequence") ps).length * 1 ≤ 16777216
          omega
        · exact q H5 ((e13.trans e4).trans e5)
      have e14 := e13.trans e4
      refine q_when (hlit "choice" H4 _ rfl) (fun h4 H5 e5 => ?_) (fun h4 H5 e5 => ?_)
      · have hk' : k = "choice" := of_decide_eq_true h4
        subst hk'
        refine s_ret (ev_join ev_c (hlc ["choice"] _ H5 _ (e14.trans e5) rfl rfl rfl (fun H6 σ' => eu_tup (ea_cons ev_c ea_nil) (by show 1 ≤ 100000; decide))) ?_) fun H6 e6 => ?_
        · show ((Tr.shs (inK "choice") ps).map (·.length)).sum + (Tr.shs (inK "choice") ps).length * 3 ≤ 16777216
          omega
        · exact q H6 ((e14.trans e5).trans e6)
      have e15 := e14.trans e5
      have n3 : ¬ k = "sequence" := of_decide_eq_false h3
      have n4 : ¬ k = "choice" := of_decide_eq_false h4
      have hrep : (k = "repeat" ∨ k = "optional") ∧ ps.length = 1 := by
        rcases hk with h | ⟨h | h, _⟩
        · exact h
        · exact absurd h n3
        · exact absurd h n4
      obtain ⟨t1, rfl⟩ : ∃ t1, ps = [t1] := by
        match ps, hrep.2 with
        | [t1], _ => exact ⟨t1, rfl⟩
      obtain ⟨v1, rfl⟩ : ∃ v1, vs = [v1] := by
        match vs, hvl with
        | [v1], _ => exact ⟨v1, rfl⟩
      have hv1 : Dd p H v1 t1.toD := by
        cases hds with
        | cons h _ => exact h
      have hin : inK k = [] := by
        unfold inK
        rw [if_neg n3, if_neg n4]
      have hsh : (Tr.node k [t1]).sh = openS k ++ " " ++ t1.sh ++ " " ++ closeS k := by
        show shN k (Tr.shs (inK k) [t1]) = _
        unfold shN
        rw [if_neg n3, if_neg n4, hin]
        rfl
      have hw1 : 4 + (t1.wid + 7 + 0) ≤ 40000 := hw'
      have hl1 := sh_len t1 hfs.1
      have hdep : max t1.dep 0 + 1 < D + 1 := hD'
      have hev : EvU (tIf (tTest (tOp rEq (tVar 1) (tC (.str "repeat")))) (tTup (tCons (tC (.str "{")) (tCons (tC (.str "}")) tNil))) (tTup (tCons (tC (.str "[")) (tCons (tC (.str "]")) tNil)))) [some (.ref a), some (.str k), none, none, none] H5 [.str (openS k), .str (closeS k)] := by
        intro H6 e6 Q q
        refine hlit "repeat" H5 _ rfl H6 e6 _ fun H7 e7 => ?_
        have hkk : (Tr.node k [t1]).kind = k := rfl
        by_cases hc : k = "repeat"
        · rw [hkk, if_pos (decide_eq_true hc)]
          have eo : openS k = "{" := by unfold openS; rw [if_pos hc]
          have ec : closeS k = "}" := by unfold closeS; rw [if_pos hc]
          rw [eo, ec] at q
          exact eu_tup (ea_cons ev_c (ea_cons ev_c ea_nil)) (by show 2 ≤ 100000; decide) H7 (Ex.refl _) Q fun p1 H8 n8 e8 h8 => q p1 H8 (fresh_back e7 n8) (e7.trans e8) h8
        · rw [hkk, if_neg (by rw [decide_eq_false hc]; decide)]
          have eo : openS k = "[" := by unfold openS; rw [if_neg hc]
          have ec : closeS k = "]" := by unfold closeS; rw [if_neg hc]
          rw [eo, ec] at q
          exact eu_tup (ea_cons ev_c (ea_cons ev_c ea_nil)) (by show 2 ≤ 100000; decide) H7 (Ex.refl _) Q fun p1 H8 n8 e8 h8 => q p1 H8 (fresh_back e7 n8) (e7.trans e8) h8
      refine hev H5 (Ex.refl _) _ fun p1 H6 _ e6 h6 => ⟨p1, _, rfl, st_of h6, rfl, _, _, rfl, _, _, rfl, rfl, ?_⟩
      have e16 := e15.trans e6
      have lo : (openS k).length = 1 := by unfold openS; split <;> decide +kernel
      have lc : (closeS k).length = 1 := by unfold closeS; split <;> decide +kernel
      refine s_ret (v := .str (Tr.node k [t1]).sh) (ev_is (ev_js (ys := [openS k, " ", t1.sh, " ", closeS k]) (.cons (ev_fmt (ev_var rfl) (by omega)) (.cons ev_c (.cons (ev_fmt (ev_call (ea_cons (ev_op (ev_var rfl) ev_c (rv_ixT (st_of (e16 _ _ ha')) (atI_nat (j := 1) rfl))) ea_nil)
        (fun H7 e7 Q q E => ⟨p, v1, t1, rfl, by omega, hv1.up (e16.trans e7), hfs.1, by omega, fun H8 e8 => q H8 e8⟩)) (by omega)) (.cons ev_c (.cons (ev_fmt (ev_var rfl) (by omega)) .nil))))) ?_) ?_) fun H7 e7 => q H7 (e16.trans e7)
      · show (openS k).length + (1 + (t1.sh.length + (1 + ((closeS k).length + 0)))) ≤ 100000
        omega
      · rw [hsh, catJ5]
end
end K52
namespace Es
open PySem PySem.Spec PyProof.Rows L2 Evl
/-- the tuples stay -/
def Ts (H H' : Hp) : Prop := ∀ a xs, H a = some (.tup xs) → H' a = some (.tup xs)
theorem Ts.refl (H : Hp) : Ts H H := fun _ _ h => h
theorem Ts.ex {H H' : Hp} (e : Ex H H') : Ts H H' := fun a xs h => e a _ h
theorem Ts.trans {H H1 H2 : Hp} (a : Ts H H1) (b : Ts H1 H2) : Ts H H2 := fun x o h => b x o (a x o h)
theorem Ts.xp {x : Addr} {H H' : Hp} (e : Xp x H H') {o : HO} (hx : H x = some o) (ho : ∀ xs, o ≠ .tup xs) : Ts H H' := fun a xs h => e a _ (fun z => by
  subst z
  rw [hx] at h
  exact ho xs (Option.some.inj h)) h
theorem Ts.lst {H : Hp} {l : Addr} {xs ys : List V} (hl : H l = some (.lst xs)) : Ts H (upd H l (.lst ys)) := fun a zs h => by
  rw [upd_ne (ne_of h hl (by intro z; cases z))]
  exact h
mutual
/-- data of tuples, texts and None -/
inductive Pd (H : Hp) : V → PyData → Prop
  | non : Pd H .non .none
  | str (x : Str) : Pd H (.str x) (.str x)
  | tup {a : Addr} {xs : List V} {ds : List PyData} : H a = some (.tup xs) → PdAll H xs ds → Pd H (.ref a) (.tuple ds)
inductive PdAll (H : Hp) : List V → List PyData → Prop
  | nil : PdAll H [] []
  | cons {v : V} {vs : List V} {d : PyData} {ds : List PyData} : Pd H v d → PdAll H vs ds → PdAll H (v :: vs) (d :: ds)
end
section
variable {H H' : Hp}
mutual
theorem Pd.ts (e : Ts H H') : ∀ {v : V} {d : PyData}, Pd H v d → Pd H' v d
  | _, _, .non => .non
  | _, _, .str x => .str x
  | _, _, .tup h r => .tup (e _ _ h) (PdAll.ts e r)
theorem PdAll.ts (e : Ts H H') : ∀ {vs : List V} {ds : List PyData}, PdAll H vs ds → PdAll H' vs ds
  | _, _, .nil => .nil
  | _, _, .cons h r => .cons (Pd.ts e h) (PdAll.ts e r)
end
theorem Pd.up {v : V} {d : PyData} (h : Pd H v d) (e : Ex H H') : Pd H' v d := h.ts (.ex e)
theorem PdAll.up {v : List V} {d : List PyData} (h : PdAll H v d) (e : Ex H H') : PdAll H' v d := h.ts (.ex e)
mutual
theorem Pd.dd : ∀ {v : V} {d : PyData}, Pd H v d → Dd none H v d
  | _, _, .non => .non
  | _, _, .str x => .str x
  | _, _, .tup h r => .tup sn0 h (PdAll.dd r)
theorem PdAll.dd : ∀ {vs : List V} {ds : List PyData}, PdAll H vs ds → DdAll none H vs ds
  | _, _, .nil => .nil
  | _, _, .cons h r => .cons (Pd.dd h) (PdAll.dd r)
end
theorem PdAll.length {vs : List V} {ds : List PyData} (h : PdAll H vs ds) : vs.length = ds.length := h.dd.length
theorem PdAll.append : ∀ {vs ws : List V} {ds es : List PyData}, PdAll H vs ds → PdAll H ws es → PdAll H (vs ++ ws) (ds ++ es)
  | _, _, _, _, .nil, h => h
  | _, _, _, _, .cons h r, k => .cons h (PdAll.append r k)
end
/-- a word of ordinary signs, not too long -/
def WdS (w : Str) : Prop := w.length ≤ 1500 ∧ (w.cps.toList.all fun c => decide (c < 16 ^ 8)) = true
theorem WdS.fit {w : Str} (h : WdS w) : Fit 2000 (.str w) := fit_str h.2 (by have := h.1; omega)
theorem all_take {α : Type} {p : α → Bool} : ∀ {l : List α} {n : Nat}, l.all p = true → (l.take n).all p = true
  | [], n, h => by rw [List.take_nil]; rfl
  | x :: r, 0, h => rfl
  | x :: r, n + 1, h => by
    rw [List.all_cons, Bool.and_eq_true] at h
    rw [List.take_succ_cons, List.all_cons, h.1, all_take h.2]
    rfl
theorem all_drop {α : Type} {p : α → Bool} : ∀ {l : List α} {n : Nat}, l.all p = true → (l.drop n).all p = true
  | [], n, h => by rw [List.drop_nil]; rfl
  | x :: r, 0, h => h
  | x :: r, n + 1, h => by
    rw [List.all_cons, Bool.and_eq_true] at h
    exact all_drop (l := r) (n := n) h.2
theorem WdS.cut {w : Str} (h : WdS w) (lo hi : Option Int) : WdS (cutS w lo hi) := by
  refine ⟨Nat.le_trans (cut_le w lo hi) h.1, ?_⟩
  show ((List.toArray _).toList.all _) = true
  rw [List.toList_toArray]
  exact all_take (all_drop h.2)
def wvs (ws : List Str) : List V := ws.map V.str
def spLeaf : Sp := fun vs H Q _ => ∃ w : Str, vs = [.str w] ∧ WdS w ∧ ∀ v H', Ex H H' → Pd H' v (leafD w) → Q v H'
def spJoin : Sp := fun vs H Q _ => ∃ (k : Str) (l : Addr) (us : List V) (ds : List PyData), vs = [.str k, .ref l] ∧ H l = some (.lst us) ∧ PdAll H us ds ∧ ds.length ≤ 2000 ∧ ∀ v H', Ex H H' → Pd H' v (joinD k ds) → Q v H'
theorem tok_same (z : Str) : isTok (.str z) = tokS z := rfl
section
variable {X : Cx} {d : Addr} {es : Array DictEntry} {n : Nat}
/-- D[key], a dict of the module -/
def rKd (K : PySem.W.Frag) (d : Addr) : R2 := fun x y H Q => ∃ (z : Str) (u0 : Value) (v0 : V), x = .ref d ∧ y = .str z ∧ PySem.W.nsIn K d z = some (some u0) ∧ RelV v0 u0 ∧ Q v0 H
theorem ix_kd (D : KDict X.K X.w d es n) : IxR X (rKd X.K d) := by
  intro value slice pins s σ H x y v u Q I rx ry h hs
  obtain ⟨z, u0, v0, rfl, rfl, e, r, q⟩ := h
  cases rx
  obtain ⟨t, rfl⟩ := ry
  exact tail_any (kd_type D I) slot_dict_getitem.lookup (wpAny_getItem_of (PySem.strKind_is X.prog X.w z t) (PySem.W.mapOf_K (prog := X.prog) I.kIn D.at_ D.lit) (PySem.W.find_K D.at_ e) ⟨v0, H, I.tok _, r, q⟩) hs
end
/-- the table of the brackets -/
structure BrAt (K : PySem.W.Frag) (w : World) (d : Addr) : Prop where
  kd : ∃ es n, KDict K w d es n
  no : ∀ z, brk z = none → PySem.W.nsIn K d z = some none
  yes : ∀ z k, brk z = some k → ∃ t, PySem.W.nsIn K d z = some (some (.str k t))
/-! how far reading gets -/
theorem drop_len {α : Type} (l : List α) (n : Nat) : (l.drop n).length ≤ l.length := by
  rw [List.length_drop]
  omega
def Sh1 (f : List Str → PyData × List Str) : Prop := ∀ ws, (f ws).2.length ≤ ws.length
theorem part_sh {ch : Option (List Str → PyData × List Str)} (h : ∀ c, ch = some c → Sh1 c) : ∀ w r, (partF ch (w :: r)).2.length ≤ r.length := by
  intro w r
  cases hb : brk w with
  | none =>
    have e : partF ch (w :: r) = (leafD w, r) := by
      unfold partF
      simp only [hb]
    rw [e]
    exact Nat.le_refl _
  | some k =>
    cases ch with
    | none =>
      have e : partF none (w :: r) = (.none, r) := by
        unfold partF
        simp only [hb]
      rw [e]
      exact Nat.le_refl _
    | some c =>
      have e : partF (some c) (w :: r) = (if w = "(" then (c r).1 else .tuple [.str k, (c r).1], (c r).2.drop 1) := by
        unfold partF
        simp only [hb]
      rw [e]
      exact Nat.le_trans (drop_len _ _) (h c rfl r)
theorem seqF_sh {p : List Str → PyData × List Str} (h : ∀ w r, (p (w :: r)).2.length ≤ r.length) : ∀ (n : Nat) (ws : List Str) (acc : List PyData), (seqF p n ws acc).2.length ≤ ws.length
  | 0, ws, acc => Nat.le_refl _
  | n + 1, [], acc => Nat.le_refl _
  | n + 1, w :: r, acc => by
    show (if stopW w = true then (acc, w :: r) else seqF p n (p (w :: r)).2 (acc ++ [(p (w :: r)).1])).2.length ≤ _
    split
    · exact Nat.le_refl _
    · exact Nat.le_trans (seqF_sh h n _ _) (Nat.le_trans (h w r) (Nat.le_succ _))
theorem choF_sh {s : List Str → PyData × List Str} (h : Sh1 s) : ∀ (n : Nat) (ws : List Str) (acc : List PyData), (choF s n ws acc).2.length ≤ ws.length
  | 0, ws, acc => Nat.le_refl _
  | n + 1, [], acc => Nat.le_refl _
  | n + 1, w :: r, acc => by
    show (if w = "|" then choF s n (s r).2 (acc ++ [(s r).1]) else (acc, w :: r)).2.length ≤ _
    split
    · exact Nat.le_trans (choF_sh h n _ _) (Nat.le_trans (h r) (Nat.le_succ _))
    · exact Nat.le_refl _
theorem ch_sh : ∀ L, Sh1 (chL L)
  | 0 => fun ws => by
    have hp := part_sh (ch := none) (fun c e => by cases e)
    have hs : Sh1 (seqR (partF none)) := fun us => seqF_sh hp _ _ _
    exact Nat.le_trans (choF_sh hs _ _ _) (hs ws)
  | L + 1 => fun ws => by
    have hp := part_sh (ch := some (chL L)) (fun c e => by cases e; exact ch_sh L)
    have hs : Sh1 (seqR (partF (some (chL L)))) := fun us => seqF_sh hp _ _ _
    exact Nat.le_trans (choF_sh hs _ _ _) (hs ws)
theorem pt_sh : ∀ L w r, (ptL L (w :: r)).2.length ≤ r.length
  | 0 => part_sh (fun c e => by cases e)
  | L + 1 => part_sh (fun c e => by cases e; exact ch_sh L)
theorem sq_sh (L : Nat) : Sh1 (sqL L) := fun us => seqF_sh (pt_sh L) _ _ _
/-- more turns than words change nothing -/
theorem seqF_fuel {p : List Str → PyData × List Str} (h : ∀ w r, (p (w :: r)).2.length ≤ r.length) : ∀ (n m : Nat) (ws : List Str) (acc : List PyData), ws.length ≤ n → ws.length ≤ m → seqF p n ws acc = seqF p m ws acc
  | 0, 0, _, _, _, _ => rfl
  | 0, m + 1, [], _, _, _ => rfl
  | 0, _, w :: r, _, h1, _ => by cases h1
  | n + 1, 0, [], _, _, _ => rfl
  | n + 1, 0, w :: r, _, _, h2 => by cases h2
  | n + 1, m + 1, [], _, _, _ => rfl
  | n + 1, m + 1, w :: r, acc, h1, h2 => by
    have h1' : r.length ≤ n := Nat.le_of_succ_le_succ h1
    have h2' : r.length ≤ m := Nat.le_of_succ_le_succ h2
    have hp := h w r
    show (if stopW w = true then (acc, w :: r) else seqF p n (p (w :: r)).2 (acc ++ [(p (w :: r)).1])) = (if stopW w = true then (acc, w :: r) else seqF p m (p (w :: r)).2 (acc ++ [(p (w :: r)).1]))
    rw [seqF_fuel h n m _ _ (by omega) (by omega)]
theorem choF_fuel {s : List Str → PyData × List Str} (h : Sh1 s) : ∀ (n m : Nat) (ws : List Str) (acc : List PyData), ws.length ≤ n → ws.length ≤ m → choF s n ws acc = choF s m ws acc
  | 0, 0, _, _, _, _ => rfl
  | 0, m + 1, [], _, _, _ => rfl
  | 0, _, w :: r, _, h1, _ => by cases h1
  | n + 1, 0, [], _, _, _ => rfl
  | n + 1, 0, w :: r, _, _, h2 => by cases h2
  | n + 1, m + 1, [], _, _, _ => rfl
  | n + 1, m + 1, w :: r, acc, h1, h2 => by
    have h1' : r.length ≤ n := Nat.le_of_succ_le_succ h1
    have h2' : r.length ≤ m := Nat.le_of_succ_le_succ h2
    have hp := h r
    show (if w = "|" then choF s n (s r).2 (acc ++ [(s r).1]) else (acc, w :: r)) = (if w = "|" then choF s m (s r).2 (acc ++ [(s r).1]) else (acc, w :: r))
    rw [choF_fuel h n m _ _ (by omega) (by omega)]
end Es
namespace Es
open PySem PySem.Spec PyProof.Rows L2 Evl
/-! the reader of words -/
def wf (wl : Addr) (i : Nat) : List (Str × V) := [("words", .ref wl), ("at", .int (i : Int))]
theorem wf_w (wl : Addr) (i : Nat) : (wf wl i).lookup ("words" : Str) = some (V.ref wl) := rfl
theorem wf_a (wl : Addr) (i : Nat) : (wf wl i).lookup ("at" : Str) = some (V.int (i : Int)) := rfl
theorem wf_put (wl : Addr) (i j : Nat) : putF "at" (.int (j : Int)) (wf wl i) = wf wl j := rfl
theorem wf_new (wl : Addr) : putF "at" (.int 0) (putF "words" (.ref wl) []) = wf wl 0 := rfl
def WAt (C : Addr) (H : Hp) (x dx wl : Addr) (ws : List Str) (i : Nat) : Prop := H x = some (.ins C dx (wf wl i)) ∧ H wl = some (.lst (wvs ws))
def OkW (ws : List Str) : Prop := ws.length ≤ 1500 ∧ ∀ w ∈ ws, WdS w
def spW (C : Addr) (f : List Str → PyData × List Str) (pre : List Str → Prop) (L : Nat) : Sp := fun vs H Q _ => ∃ (x dx wl : Addr) (ws : List Str) (i : Nat), vs = [.ref x, .int (L : Int)] ∧ WAt C H x dx wl ws i ∧ OkW ws ∧ pre (ws.drop i) ∧
  ∀ v H' j, Xp x H H' → H' x = some (.ins C dx (wf wl j)) → ws.drop j = (f (ws.drop i)).2 → Pd H' v (f (ws.drop i)).1 → Q v H'
def spWC (C : Addr) (L : Nat) : Sp := spW C (chL L) (fun _ => True) L
def spWS (C : Addr) (L : Nat) : Sp := spW C (sqL L) (fun _ => True) L
def spWP (C : Addr) (L : Nat) : Sp := spW C (ptL L) (fun r => r ≠ []) L
def spPrev (C : Addr) : Nat → Sp
  | 0 => fun _ _ _ _ => False
  | M + 1 => spWC C M
def spWI (C : Addr) : Sp := fun vs H Q _ => ∃ x dx wl : Addr, vs = [.ref x, .ref wl] ∧ H x = some (.ins C dx []) ∧ ∀ H', Xp x H H' → H' x = some (.ins C dx (wf wl 0)) → Q .non H'
theorem drop_cons {α : Type} {l r : List α} {i : Nat} {w : α} (h : l.drop i = w :: r) : l[i]? = some w ∧ l.drop (i + 1) = r ∧ i < l.length := by
  have hi : i < l.length := by
    rcases Nat.lt_or_ge i l.length with z | z
    · exact z
    · rw [List.drop_eq_nil_of_le z] at h
      cases h
  have e := List.drop_eq_getElem_cons hi
  rw [h] at e
  have e1 := List.head_eq_of_cons_eq e
  have e2 := List.tail_eq_of_cons_eq e
  exact ⟨by rw [List.getElem?_eq_getElem hi, ← e1], e2.symm, hi⟩
theorem drop_nil_iff {α : Type} {l : List α} {i : Nat} : l.drop i = [] ↔ l.length ≤ i := by
  rw [List.drop_eq_nil_iff]
section
variable {K : PySem.W.Frag} {σ : L2.St} {H : Hp} {C x dx wl : Addr} {i j : Nat}
theorem ev_fw (h : σ[j]? = some (some (.ref x))) (hx : H x = some (.ins C dx (wf wl i))) (c : Cls K C) (n : NoAttr K C "words") : Ev (tFld K (tVar j) "words") σ H (.ref wl) := fun H1 e _ q => ⟨.ref x, h, x, C, dx, _, _, rfl, e _ _ hx, c, n, wf_w _ _, q H1 (Ex.refl _)⟩
theorem ev_fa (h : σ[j]? = some (some (.ref x))) (hx : H x = some (.ins C dx (wf wl i))) (c : Cls K C) (n : NoAttr K C "at") : Ev (tFld K (tVar j) "at") σ H (.int (i : Int)) := fun H1 e _ q => ⟨.ref x, h, x, C, dx, _, _, rfl, e _ _ hx, c, n, wf_a _ _, q H1 (Ex.refl _)⟩
theorem s_retI {D : Ends} {t : TT} {ta tb : TE} {b : Bool} (h : EvT t σ H b) (h1 : b = true → ∀ H1, Ex H H1 → ta σ H1 D.rt) (h2 : b = false → ∀ H1, Ex H H1 → tb σ H1 D.rt) : tRet (tIf t ta tb) D σ H := h H (Ex.refl _) _ fun H1 e1 => by
  cases b with
  | true => exact h1 rfl H1 e1
  | false => exact h2 rfl H1 e1
theorem ev_lenW {ta : TE} {xs : List V} (ha : Ev ta σ H (.ref wl)) (h : H wl = some (.lst xs)) : Ev (tCB (rLenS K) (tCons ta tNil)) σ H (.int (xs.length : Int)) := ev_len ha (sq_of h)
end
end Es
namespace K52
open PySem PySem.Spec PyProof.Rows L2 Evl Es
theorem scLeaf : FnScope ["word"] ["word"] (defScope sLeaf) := ⟨rfl, rfl, rfl, by decide +kernel, rfl, by decide +kernel, by decide +kernel⟩
theorem scJoin : FnScope ["kind", "parts"] ["kind", "parts"] (defScope sJoin) := ⟨rfl, rfl, rfl, by decide +kernel, rfl, by decide +kernel, by decide +kernel⟩
theorem scWI : FnScope ["self", "words"] ["self", "words"] (defScope sWI) := ⟨rfl, rfl, rfl, by decide +kernel, rfl, by decide +kernel, by decide +kernel⟩
theorem scWCho : FnScope ["self", "levels", "parts"] ["self", "levels"] (defScope sWCho) := ⟨rfl, rfl, rfl, by decide +kernel, rfl, by decide +kernel, by decide +kernel⟩
theorem scWSeq : FnScope ["self", "levels", "parts"] ["self", "levels"] (defScope sWSeq) := ⟨rfl, rfl, rfl, by decide +kernel, rfl, by decide +kernel, by decide +kernel⟩
theorem scWPart : FnScope ["self", "levels", "word", "inner"] ["self", "levels"] (defScope sWPart) := ⟨rfl, rfl, rfl, by decide +kernel, rfl, by decide +kernel, by decide +kernel⟩
/-- the class of the readers, and what it needs -/
structure WoC (K : PySem.W.Frag) (mg : Str → Option Value) (w : World) (C fI fC fS fP : Addr) (dI dC dS dP : FuncData) (fT fJ fL aB aC : Addr) (dT dJ dL : FuncData) : Prop where
  cl : Cls K C
  nW : NoAttr K C "words"
  nA : NoAttr K C "at"
  g : mg "Words" = some (.ref C)
  mks : Mk K C fI
  In : Fun K "__init__" "Words.__init__" sWI fI dI
  Ch : Fun K "choice" "Words.choice" sWCho fC dC
  Sq : Fun K "sequence" "Words.sequence" sWSeq fS dS
  Pa : Fun K "part" "Words.part" sWPart fP dP
  mC : Meth K C "choice" fC
  mS : Meth K C "sequence" fS
  mP : Meth K C "part" fP
  Tk : Fun K "is_token" "is_token" sTok fT dT
  Jn : Fun K "joined" "joined" sJoin fJ dJ
  Lf : Fun K "leaf_of" "leaf_of" sLeaf fL dL
  gT : mg "is_token" = some (.ref fT)
  gJ : mg "joined" = some (.ref fJ)
  gL : mg "leaf_of" = some (.ref fL)
  gB : mg "BRACKETS" = some (.ref aB)
  br : BrAt K w aB
  gC : mg "CLOSING" = some (.ref aC)
  cls : ∀ H, SqT K H aC (wvs [")", "}", "]"])
  bar : ∃ t, mg "BAR" = some (.str "|" t)
  lets : ∃ t, mg "LETTERS" = some (.str abc t)
  most : ∃ t, mg "MOST_LETTERS" = some (.int 8 t)
  mi : mg "isinstance" = none
  ms : mg "str" = none
  ml : mg "len" = none
  ma : mg "all" = none
  mt : mg "tuple" = none
section
variable {P : Program} {w : World} {K : PySem.W.Frag} {mg : Str → Option Value} {base : Heap} {C fI fC fS fP fT fJ fL aB aC : Addr} {dI dC dS dP dT dJ dL : FuncData}
theorem ok_tokW (T : WoC K mg w C fI fC fS fP dI dC dS dP fT fJ fL aB aC dT dJ dL) {k : Nat} : FnOk P w K mg base CX0 (k + 1) fT dT ["value"] spTok := by
  obtain ⟨t1, h1⟩ := T.lets
  obtain ⟨t2, h2⟩ := T.most
  exact ok_tok T.Tk T.mi T.ms T.ml T.ma h1 h2
theorem b_tok (T : WoC K mg w C fI fC fS fP dI dC dS dP fT fJ fL aB aC dT dJ dL) : Binds K dT ["value"] [] := T.Tk.binds fun _ _ _ _ _ _ us hl => match us, hl with | [_], _ => rfl
theorem ev_tok {σ : L2.St} {H : Hp} {te : TE} {E : XK} {z : Str} (h : Ev te σ H (.str z)) (hz : WdS z) : Ev (tCall spTok [] E (tCons te tNil)) σ H (.bl (tokS z)) := ev_call (ea_cons h ea_nil) (fun H1 e1 Q q E => ⟨none, .str z, .str z, rfl, .str z, hz.fit, fun H2 e2 => q H2 e2⟩)
theorem ev_cutS {σ : L2.St} {H : Hp} {te : TE} {tl th : TO} {z : Str} {lo hi : Option Int} (h : Ev te σ H (.str z)) (hz : WdS z) (h1 : EvO tl σ H lo) (h2 : EvO th σ H hi) : Ev (tSl rSlS te tl th) σ H (.str (cutS z lo hi)) := fun H1 e Q q =>
  h H1 e _ fun H2 e2 => h1 H2 (e.trans e2) _ fun H3 e3 => h2 H3 ((e.trans e2).trans e3) _ fun H4 e4 => ⟨z, rfl, sz_of (by have := hz.1; omega), q H4 ((e2.trans e3).trans e4)⟩
theorem ok_leaf (T : WoC K mg w C fI fC fS fP dI dC dS dP fT fJ fL aB aC dT dJ dL) {k : Nat} : FnOk P w K mg base CX0 (k + 2) fL dL ["word"] spLeaf := by
  have GT : FnOk P w K mg base CX0 (k + 1) fT dT ["value"] spTok := ok_tokW T
  refine T.Lf.ok scLeaf (fun vs H Q E h => ?_) (fun cdv A outer s H vs Q E hr h => ?_)
  · obtain ⟨z, rfl, _⟩ := h
    rfl
  · obtain ⟨z, rfl, hz, q⟩ := h
    refine ⟨_, pss_cons (ps_if (pt_val (pe_call GT hr (by rfl) T.gT T.Tk.kp (b_tok T) .nil pass0 (pa_cons (pv 0) pa_nil))) (pss_one (ps_ret (pe_tup (pa_cons pe_str (pa_cons (pv 0) pa_nil))))) pss_nil)
      (pss_cons (ps_if (PW.pt (pw_and (pt_cmpR op_eq (pe_slice sl_str (pv 0) po_none (po_some pe_int)) pe_str (nomark _)) (pw_and (pt_cmpR op_eq (pe_slice sl_str (pv 0) (po_some (pe_un un_neg pe_int)) po_none) pe_str (nomark _)) (pw_and1 (pt_val (pe_call GT hr (by rfl) T.gT T.Tk.kp (b_tok T) .nil pass0 (pa_cons (pe_slice sl_str (pv 0) (po_some pe_int) (po_some (pe_un un_neg pe_int))) pa_nil)))))))
        (pss_one (ps_ret (pe_tup (pa_cons pe_str (pa_cons (pe_slice sl_str (pv 0) (po_some pe_int) (po_some (pe_un un_neg pe_int))) pa_nil))))) pss_nil)
      (pss_one (ps_ret pe_non))), ?_⟩
    refine q_when (et_B (ev_tok (ev_var rfl) hz)) (fun hb H1 e1 => ?_) (fun hb H1 e1 => ?_)
    · refine s_retU (eu_tup (ea_cons ev_c (ea_cons (ev_var rfl) ea_nil)) (by show 2 ≤ 100000; decide)) fun p H2 _ e2 h2 => ?_
      refine q _ H2 (e1.trans e2) ?_
      unfold leafD
      rw [if_pos hb]
      exact .tup h2 (.cons (.str _) (.cons (.str _) .nil))
    · refine q_when (et_and (et_test (ev_op (ev_cutS (ev_var rfl) hz eo_none (eo_some ev_c)) ev_c (rv_eq rfl))) (fun _ => et_and (et_test (ev_op (ev_cutS (ev_var rfl) hz (eo_some (ev_un ev_c ru_neg)) eo_none) ev_c (rv_eq rfl)))
        (fun _ => et_B (ev_tok (ev_cutS (ev_var rfl) hz (eo_some ev_c) (eo_some (ev_un ev_c ru_neg))) (hz.cut _ _))))) (fun hb2 H2 e2 => ?_) (fun hb2 H2 e2 => ?_)
      · rw [Es.eq_str, Es.eq_str, Bool.and_eq_true, Bool.and_eq_true] at hb2
        refine s_retU (eu_tup (ea_cons ev_c (ea_cons (ev_cutS (ev_var rfl) hz (eo_some ev_c) (eo_some (ev_un ev_c ru_neg))) ea_nil)) (by show 2 ≤ 100000; decide)) fun p H3 _ e3 h3 => ?_
        refine q _ H3 ((e1.trans e2).trans e3) ?_
        unfold leafD
        rw [if_neg (by rw [hb]; decide), if_pos ⟨of_decide_eq_true hb2.1, of_decide_eq_true hb2.2.1, hb2.2.2⟩]
        exact .tup h3 (.cons (.str _) (.cons (.str _) .nil))
      · rw [Es.eq_str, Es.eq_str] at hb2
        refine s_ret ev_c fun H3 e3 => q _ H3 ((e1.trans e2).trans e3) ?_
        unfold leafD
        rw [if_neg (by rw [hb]; decide), if_neg]
        · exact .non
        · rintro ⟨a1, a2, a3⟩
          have a3' : tokS (cutS z (some 1) (some (-1))) = true := a3
          rw [decide_eq_true a1, decide_eq_true (show cutS z (some (-1)) none = ">" from a2)] at hb2
          have hb3 : tokS (cutS z (some 1) (some (-1))) = false := by simpa using hb2
          rw [a3'] at hb3
          cases hb3
theorem ok_join (T : WoC K mg w C fI fC fS fP dI dC dS dP fT fJ fL aB aC dT dJ dL) {k : Nat} : FnOk P w K mg base CX0 (k + 1) fJ dJ ["kind", "parts"] spJoin := by
  refine T.Jn.ok scJoin (fun vs H Q E h => ?_) (fun cdv A outer s H vs Q E hr h => ?_)
  · obtain ⟨z, l, us, ds, rfl, _⟩ := h
    rfl
  · obtain ⟨z, l, us, ds, rfl, hl, hd, hn, q⟩ := h
    refine ⟨_, pss_one (ps_ret (pe_ifExp (pt_cmpR op_eq (pe_callB call_len_seq (by rfl) T.ml PySem.boot_len (pa_cons (pv 1) pa_nil)) pe_int (nomark _)) (pe_ix ix_list (pv 1) pe_int (fun _ _ => rfl)) (pe_op op_catA (pe_tup (pa_cons (pv 0) pa_nil)) (pe_callTy call_tuple_of (by rfl) T.mt (by decide +kernel) (pa_cons (pv 1) pa_nil))))), ?_⟩
    have ll := hd.length
    refine s_retI (et_test (ev_op (ev_cb (ea_cons (ev_var rfl) ea_nil) (fun H3 e3 Q q => ⟨l, us, rfl, .inl (sq_of (e3 _ _ hl)), q H3 (Ex.refl _)⟩)) ev_c (rv_eq rfl))) (fun hb H1 e1 => ?_) (fun hb H1 e1 => ?_)
    · have h1 : us.length = 1 := by
        have := V.int.inj (of_decide_eq_true hb)
        omega
      match us, ds, h1, ll, hd with
      | [u], [d], _, _, hd =>
        have hu : Pd H u d := by
          cases hd with
          | cons h _ => exact h
        exact ⟨.ref l, rfl, l, _, 0, u, rfl, rfl, sq_of (e1 _ _ hl), rfl, q u H1 e1 (hu.up e1)⟩
    · have h1 : ¬ us.length = 1 := fun z => of_decide_eq_false hb (by rw [z]; rfl)
      have hj : joinD z ds = .tuple (.str z :: ds) := by
        match ds, ll with
        | [], _ => rfl
        | [d], ll => exact absurd ll h1
        | _ :: _ :: _, _ => rfl
      rw [hj] at q
      refine ⟨.str z, rfl, sz_of (by show 1 ≤ 100000; decide), fun a na => ?_⟩
      have ea := Ex.new (o := .tup [.str z]) na
      refine ⟨.ref l, rfl, l, us, rfl, .inl ⟨sq_of (ea _ _ (e1 _ _ hl)), fun b nb => ?_⟩⟩
      have eb := Ex.new (o := .tup us) nb
      refine cat_join (eb _ _ upd_same) upd_same (by show 1 + us.length ≤ 100000; omega) fun c H2 e2 hc => ?_
      exact q _ H2 (((e1.trans ea).trans eb).trans e2) (.tup hc (.cons (.str z) (hd.up (((e1.trans ea).trans eb).trans e2))))
theorem ok_wI (T : WoC K mg w C fI fC fS fP dI dC dS dP fT fJ fL aB aC dT dJ dL) {k : Nat} : FnOk P w K mg base CX0 (k + 1) fI dI ["self", "words"] (spWI C) := by
  refine T.In.ok scWI (fun vs H Q E h => ?_) (fun cdv A outer s H vs Q E hr h => ?_)
  · obtain ⟨x, dx, wl, rfl, _⟩ := h
    rfl
  · obtain ⟨x, dx, wl, rfl, hx, q⟩ := h
    refine ⟨_, pss_cons (ps_fld (pv 0) (pv 1) rfl) (pss_one (ps_fld (pv 0) pe_int rfl)), ?_⟩
    refine ⟨_, rfl, _, rfl, x, C, dx, _, rfl, hx, T.cl, T.nW, (by show 0 < 1000; decide), ?_⟩
    refine ⟨_, rfl, x, C, dx, _, rfl, upd_same, T.cl, T.nA, (by show 1 < 1000; decide), ?_⟩
    refine q _ (fun b o nb hb => ?_) ?_
    · rw [upd_ne nb, upd_ne nb]
      exact hb
    · rw [upd_same, wf_new]
end
end K52
namespace Es
open PySem PySem.Spec PyProof.Rows L2 Evl
theorem WAt.ex {C x dx wl : Addr} {H H' : Hp} {ws : List Str} {i : Nat} (h : WAt C H x dx wl ws i) (e : Ex H H') : WAt C H' x dx wl ws i := ⟨e _ _ h.1, e _ _ h.2⟩
theorem WAt.ne {C x dx wl : Addr} {H : Hp} {ws : List Str} {i : Nat} (h : WAt C H x dx wl ws i) : wl ≠ x := fun z => by
  have h2 := h.2
  rw [z, h.1] at h2
  cases h2
theorem WAt.step {C x dx wl : Addr} {H H' : Hp} {ws : List Str} {i j : Nat} (h : WAt C H x dx wl ws i) (e : Xp x H H') (hx : H' x = some (.ins C dx (wf wl j))) : WAt C H' x dx wl ws j := ⟨hx, e _ _ h.ne h.2⟩
theorem wvs_get {ws : List Str} {i : Nat} {w : Str} (h : ws[i]? = some w) : atI (wvs ws) (i : Int) = some (.str w) := by
  refine atI_nat ?_
  show (ws.map V.str)[i]? = _
  rw [List.getElem?_map, h]
  rfl
theorem part_leaf {ch : Option (List Str → PyData × List Str)} {w : Str} {r : List Str} (h : brk w = none) : partF ch (w :: r) = (leafD w, r) := by
  unfold partF
  simp only [h]
theorem pt_leaf {L : Nat} {w : Str} {r : List Str} (h : brk w = none) : ptL L (w :: r) = (leafD w, r) := by
  cases L with
  | zero => exact part_leaf (ch := none) h
  | succ L => exact part_leaf (ch := some (chL L)) h
theorem pt_none {w k : Str} {r : List Str} (h : brk w = some k) : ptL 0 (w :: r) = (.none, r) := by
  show partF none (w :: r) = _
  unfold partF
  simp only [h]
theorem pt_some {L : Nat} {w k : Str} {r : List Str} (h : brk w = some k) : ptL (L + 1) (w :: r) = (if w = "(" then (chL L r).1 else .tuple [.str k, (chL L r).1], (chL L r).2.drop 1) := by
  show partF (some (chL L)) (w :: r) = _
  unfold partF
  simp only [h]
theorem Xp.put {x : Addr} {H H' : Hp} {o : HO} (e : Xp x H H') : Xp x H (L2.upd H' x o) := e.trans Xp.upd
section
variable {K : PySem.W.Frag} {σ : L2.St} {H : Hp} {C x dx wl : Addr} {i j : Nat}
/-- self.at += 1 -/
theorem q_at {D : Ends} {tz : TS} (h : σ[j]? = some (some (.ref x))) (hx : H x = some (.ins C dx (wf wl i))) (c : Cls K C) (n : NoAttr K C "at") (k : tz D σ (upd H x (.ins C dx (wf wl (i + 1))))) :
    tSeq (sFldAug K (tVar j) (tC (.int 1)) (rI0 fun i j => .int (i + j)) "at") tz D σ H := by
  refine ⟨_, h, x, C, dx, _, _, rfl, hx, c, n, wf_a _ _, _, _, rfl, rfl, dx, _, hx, (by show 2 < 1000; decide), ?_⟩
  have hp : putF "at" (V.int ((i : Int) + 1)) (wf wl i) = wf wl (i + 1) := wf_put wl i (i + 1)
  rw [hp]
  exact k
theorem s_at {D : Ends} (h : σ[j]? = some (some (.ref x))) (hx : H x = some (.ins C dx (wf wl i))) (c : Cls K C) (n : NoAttr K C "at") (k : D.nx σ (upd H x (.ins C dx (wf wl (i + 1))))) :
    sFldAug K (tVar j) (tC (.int 1)) (rI0 fun i j => .int (i + j)) "at" D σ H := by
  refine ⟨_, h, x, C, dx, _, _, rfl, hx, c, n, wf_a _ _, _, _, rfl, rfl, dx, _, hx, (by show 2 < 1000; decide), ?_⟩
  have hp : putF "at" (V.int ((i : Int) + 1)) (wf wl i) = wf wl (i + 1) := wf_put wl i (i + 1)
  rw [hp]
  exact k
end
theorem mem_drop {α : Type} {l : List α} {i : Nat} {w : α} (h : l[i]? = some w) : w ∈ l := List.mem_of_getElem? h
end Es
namespace K52
open PySem PySem.Spec PyProof.Rows L2 Evl Es
section
variable {P : Program} {w : World} {K : PySem.W.Frag} {mg : Str → Option Value} {base : Heap} {C fI fC fS fP fT fJ fL aB aC : Addr} {dI dC dS dP dT dJ dL : FuncData}
theorem ok_wP (T : WoC K mg w C fI fC fS fP dI dC dS dP fT fJ fL aB aC dT dJ dL) {k : Nat} (L : Nat) (G : FnOk P w K mg base CX0 (k + 2) fC dC ["self", "levels"] (spPrev C L)) : FnOk P w K mg base CX0 (k + 3) fP dP ["self", "levels"] (spWP C L) := by
  have bC : Binds K dC ["self", "levels"] [] := T.Ch.binds fun _ _ _ _ _ _ us hl => match us, hl with | [_, _], _ => rfl
  have bL : Binds K dL ["word"] [] := T.Lf.binds fun _ _ _ _ _ _ us hl => match us, hl with | [_], _ => rfl
  have GL : FnOk P w K mg base CX0 (k + 2) fL dL ["word"] spLeaf := ok_leaf T
  obtain ⟨es, n, D⟩ := T.br.kd
  refine T.Pa.ok scWPart (fun vs H Q E h => ?_) (fun cdv A outer s H vs Q E hr h => ?_)
  · obtain ⟨x, dx, wl, ws, i, rfl, _⟩ := h
    rfl
  · obtain ⟨x, dx, wl, ws, i, rfl, hW, hok, hne, q⟩ := h
    refine ⟨_, pss_cons (ps_set (i := 2) scWPart.nd rfl (.inl rfl) (pe_ix ix_list (pe_fld (pv 0) rfl) (pe_fld (pv 0) rfl) (fun _ _ => rfl)))
      (pss_cons (ps_fldaug (pv 0) pe_int iop_add)
      (pss_cons (ps_if (pt_cmpR (op_notIn_kd D) (pv 2) (pe_glob (v := .ref aB) (by rfl) T.gB rfl) (by rfl)) (pss_one (ps_ret (pe_call GL hr (by rfl) T.gL T.Lf.kp bL .nil pass0 (pa_cons (pv 2) pa_nil)))) pss_nil)
      (pss_cons (ps_if (pt_cmpR op_eq (pv 1) pe_int (nomark _)) (pss_one (ps_ret pe_non)) pss_nil)
      (pss_cons (ps_set (i := 3) scWPart.nd rfl (.inl rfl) (pe_meth (pv 0) T.cl T.mC G hr bC .nil pass0 (pa_cons (pe_op op_sub (pv 1) pe_int) pa_nil)))
      (pss_cons (ps_fldaug (pv 0) pe_int iop_add)
      (pss_one (ps_ret (pe_ifExp (pt_cmpR op_eq (pv 2) pe_str (nomark _)) (pv 3) (pe_tup (pa_cons (pe_ix (ix_kd D) (pe_glob (v := .ref aB) (by rfl) T.gB rfl) (pv 2) (fun _ _ => rfl)) (pa_cons (pv 3) pa_nil))))))))))), ?_⟩
    obtain ⟨wd, r, hd⟩ : ∃ wd r, ws.drop i = wd :: r := by
      cases hd : ws.drop i with
      | nil => exact absurd hd hne
      | cons a b => exact ⟨a, b, rfl⟩
    obtain ⟨hget, hdr, hlt⟩ := drop_cons hd
    have hwd : WdS wd := hok.2 _ (mem_drop hget)
    rw [hd] at q
    refine q_asg (v := .str wd) (ev_op (ev_fw rfl hW.1 T.cl T.nW) (ev_fa rfl hW.1 T.cl T.nA) (rv_ixL (sq_of hW.2) (wvs_get hget))) fun H1 e1 => ?_
    have hW1 := hW.ex e1
    refine q_at rfl hW1.1 T.cl T.nA ?_
    have x2 : Xp x H (upd H1 x (.ins C dx (wf wl (i + 1)))) := (Xp.ex e1).put
    have hx2 : upd H1 x (.ins C dx (wf wl (i + 1))) x = some (.ins C dx (wf wl (i + 1))) := upd_same
    generalize upd H1 x (.ins C dx (wf wl (i + 1))) = H2 at x2 hx2
    have hW2 : WAt C H2 x dx wl ws (i + 1) := hW.step x2 hx2
    cases hb : brk wd with
    | none =>
      refine q_when (b := true) (et_test (ev_op (ev_var rfl) ev_c (fun H3 e3 Q q => ⟨wd, none, rfl, rfl, T.br.no wd hb, q H3 (Ex.refl _)⟩))) (fun _ H3 e3 => ?_) (fun z => nomatch z)
      refine ⟨_, rfl, wd, rfl, hwd, fun v H4 e4 hv => ?_⟩
      rw [pt_leaf hb] at q
      exact q v H4 (i + 1) (x2.trans ((Xp.ex e3).trans (Xp.ex e4))) (e4 _ _ (e3 _ _ hx2)) hdr hv
    | some kd =>
      obtain ⟨tk, hns⟩ := T.br.yes wd kd hb
      refine q_when (b := false) (et_test (ev_op (ev_var rfl) ev_c (fun H3 e3 Q q => ⟨wd, some (.str kd tk), rfl, rfl, hns, q H3 (Ex.refl _)⟩))) (fun z => nomatch z) (fun _ H3 e3 => ?_)
      cases L with
      | zero =>
        refine q_when (b := true) (et_test (ev_is (ev_op (ev_var rfl) ev_c (rv_eq rfl)) rfl)) (fun _ H4 e4 => ?_) (fun z => nomatch z)
        refine s_ret ev_c fun H5 e5 => ?_
        rw [pt_none hb] at q
        exact q _ H5 (i + 1) (x2.trans (((Xp.ex e3).trans (Xp.ex e4)).trans (Xp.ex e5))) (e5 _ _ (e4 _ _ (e3 _ _ hx2))) hdr .non
      | succ M =>
        refine q_when (b := false) (et_test (ev_is (ev_op (ev_var rfl) ev_c (rv_eq rfl)) (by rw [decide_eq_false]; intro z; have := V.int.inj z; omega))) (fun z => nomatch z) (fun _ H4 e4 => ?_)
        have hW4 := (hW2.ex e3).ex e4
        have eL : ((M + 1 : Nat) : Int) - 1 = (M : Int) := by omega
        refine ⟨_, rfl, x, dx, _, rfl, hW4.1, rfl, _, rfl, _, _, rfl, rfl, ?_⟩
        refine ⟨x, dx, wl, ws, i + 1, congrArg (fun z => [V.ref x, V.int z]) eL, hW4, hok, trivial, fun v H5 j x5 hx5 hj hv => ?_⟩
        rw [hdr] at hj hv
        have hW5 := hW4.step x5 hx5
        refine q_at rfl hx5 T.cl T.nA ?_
        have x6 : Xp x H (upd H5 x (.ins C dx (wf wl (j + 1)))) := (x2.trans (((Xp.ex e3).trans (Xp.ex e4)).trans x5)).put
        have hx6 : upd H5 x (.ins C dx (wf wl (j + 1))) x = some (.ins C dx (wf wl (j + 1))) := upd_same
        have hv6 : Pd (upd H5 x (.ins C dx (wf wl (j + 1)))) v (chL M r).1 := hv.ts (Ts.xp (x := x) Xp.upd hx5 (fun xs z => by cases z))
        generalize upd H5 x (.ins C dx (wf wl (j + 1))) = H6 at x6 hx6 hv6
        rw [pt_some hb] at q
        have hj6 : ws.drop (j + 1) = (chL M r).2.drop 1 := by rw [← hj, List.drop_drop]
        refine s_retI (et_is (et_test (ev_op (ev_var rfl) ev_c (rv_eq rfl))) (Es.eq_str _ _)) (fun hw1 H7 e7 => ?_) (fun hw1 H7 e7 => ?_)
        · have hw2 : wd = "(" := of_decide_eq_true hw1
          rw [if_pos hw2] at q
          exact ⟨v, rfl, q v H7 (j + 1) (x6.trans (Xp.ex e7)) (e7 _ _ hx6) hj6 (hv6.up e7)⟩
        · have hw2 : ¬ wd = "(" := of_decide_eq_false hw1
          rw [if_neg hw2] at q
          refine ⟨.str wd, rfl, wd, _, .str kd, rfl, rfl, hns, ⟨_, rfl⟩, v, rfl, sz_of (by show 2 ≤ 100000; decide), fun c nc => ?_⟩
          have ec := Ex.new (o := .tup [.str kd, v]) nc
          exact q _ _ (j + 1) (x6.trans ((Xp.ex e7).trans (Xp.ex ec))) (ec _ _ (e7 _ _ hx6)) hj6 (.tup upd_same (.cons (.str _) (.cons ((hv6.up e7).up ec) .nil)))
end
end K52
namespace Es
open PySem PySem.Spec PyProof.Rows L2 Evl
theorem stop_in (w : Str) : inV (.str w) (wvs ["|", ")", "}", "]"]) = stopW w := in_strs w _
theorem ev_opW {σ : L2.St} {H : Hp} {ta tb : TE} {r : R2} {x z : V} {ys : List V} (ha : Ev ta σ H x) (hb : EvW tb σ H ys) (hr : ∀ q H1, H1 q = some (.tup ys) → Ex H H1 → RV r x (.ref q) H1 z) : Ev (tOp r ta tb) σ H z := fun H1 e Q q =>
  ha H1 e _ fun H2 e2 => hb H2 (e.trans e2) _ fun p H3 e3 hp => hr p H3 hp ((e.trans e2).trans e3) H3 (Ex.refl _) Q fun H4 e4 => q H4 ((e2.trans e3).trans e4)
theorem PdAll.snoc {H : Hp} {vs : List V} {ds : List PyData} {v : V} {d : PyData} (h : PdAll H vs ds) (k : Pd H v d) : PdAll H (vs ++ [v]) (ds ++ [d]) := h.append (.cons k .nil)
theorem seqF_cons {p : List Str → PyData × List Str} (h : ∀ w r, (p (w :: r)).2.length ≤ r.length) {w : Str} {r : List Str} {acc : List PyData} (hs : stopW w = false) :
    seqF p (w :: r).length (w :: r) acc = seqF p (p (w :: r)).2.length (p (w :: r)).2 (acc ++ [(p (w :: r)).1]) := by
  show (if stopW w = true then (acc, w :: r) else seqF p r.length (p (w :: r)).2 (acc ++ [(p (w :: r)).1])) = _
  rw [if_neg (by rw [hs]; decide)]
  exact seqF_fuel h _ _ _ _ (h w r) (Nat.le_refl _)
theorem choF_cons {s : List Str → PyData × List Str} (h : Sh1 s) {r : List Str} {acc : List PyData} :
    choF s (sBar :: r).length (sBar :: r) acc = choF s (s r).2.length (s r).2 (acc ++ [(s r).1]) := by
  show (if sBar = ("|" : Str) then choF s r.length (s r).2 (acc ++ [(s r).1]) else _) = _
  rw [if_pos rfl]
  exact choF_fuel h _ _ _ _ (h r) (Nat.le_refl _)
end Es
namespace K52
open PySem PySem.Spec PyProof.Rows L2 Evl Es
section
variable {P : Program} {w : World} {K : PySem.W.Frag} {mg : Str → Option Value} {base : Heap} {C fI fC fS fP fT fJ fL aB aC : Addr} {dI dC dS dP dT dJ dL : FuncData}
theorem b_jn (T : WoC K mg w C fI fC fS fP dI dC dS dP fT fJ fL aB aC dT dJ dL) : Binds K dJ ["kind", "parts"] [] := T.Jn.binds fun _ _ _ _ _ _ us hl => match us, hl with | [_, _], _ => rfl
/-- self.at < len(self.words) -/
theorem et_lt {σ : L2.St} {H : Hp} {x dx wl : Addr} {ws : List Str} {i : Nat} (T : WoC K mg w C fI fC fS fP dI dC dS dP fT fJ fL aB aC dT dJ dL) (h : σ[0]? = some (some (.ref x))) (hW : WAt C H x dx wl ws i) :
    EvT (tTest (tOp (rI0 fun i j => .bl (decide (i < j))) (tFld K (tVar 0) "at") (tCB (rLenS K) (tCons (tFld K (tVar 0) "words") tNil)))) σ H (decide (i < ws.length)) := by
  refine et_is (et_test (ev_op (ev_fa h hW.1 T.cl T.nA) (ev_lenW (ev_fw h hW.1 T.cl T.nW) hW.2) rv_I0)) ?_
  show decide ((i : Int) < ((wvs ws).length : Int)) = _
  unfold wvs
  rw [List.length_map]
  exact decide_eq_decide.mpr (by omega)
theorem ok_wS (T : WoC K mg w C fI fC fS fP dI dC dS dP fT fJ fL aB aC dT dJ dL) {k : Nat} (L : Nat) (G : FnOk P w K mg base CX0 (k + 1) fP dP ["self", "levels"] (spWP C L)) : FnOk P w K mg base CX0 (k + 2) fS dS ["self", "levels"] (spWS C L) := by
  have bP : Binds K dP ["self", "levels"] [] := T.Pa.binds fun _ _ _ _ _ _ us hl => match us, hl with | [_, _], _ => rfl
  have GJ : FnOk P w K mg base CX0 (k + 1) fJ dJ ["kind", "parts"] spJoin := ok_join T
  obtain ⟨tb, hbar⟩ := T.bar
  refine T.Sq.ok scWSeq (fun vs H Q E h => ?_) (fun cdv A outer s H vs Q E hr h => ?_)
  · obtain ⟨x, dx, wl, ws, i, rfl, _⟩ := h
    rfl
  · obtain ⟨x, dx, wl, ws, i, rfl, hW, hok, _, q⟩ := h
    refine ⟨_, pss_cons (ps_set (i := 2) scWSeq.nd rfl (.inl rfl) (pe_lst pa_nil))
      (pss_cons (ps_while PassesOwn.never (PW.pt (pw_and (pt_cmpR op_lt (pe_fld (pv 0) rfl) (pe_callB call_len_seq (by rfl) T.ml PySem.boot_len (pa_cons (pe_fld (pv 0) rfl) pa_nil)) (nomark _))
          (pw_and1 (pt_cmpR op_notIn_seq (pe_ix ix_list (pe_fld (pv 0) rfl) (pe_fld (pv 0) rfl) (fun _ _ => rfl)) (pe_op op_catA (pe_tup (pa_cons (pe_glob (v := .str "|") (by rfl) hbar ⟨_, rfl⟩) pa_nil)) (pe_glob (v := .ref aC) (by rfl) T.gC rfl)) (by rfl)))))
        (pss_one (ps_expr (pe_bm PySem.F.plainAttrs_list PySem.F.slot_list_append PySem.F.type_list_append mt_append (pv 2) (pa_cons (pe_meth (pv 0) T.cl T.mP G hr bP .nil pass0 (pa_cons (pv 1) pa_nil)) pa_nil)))))
      (pss_one (ps_ret (pe_call GJ hr (by rfl) T.gJ T.Jn.kp (b_jn T) .nil pass0 (pa_cons pe_str (pa_cons (pv 2) pa_nil)))))), ?_⟩
    refine q_asgL (el_lst ea_nil (Nat.zero_le _)) fun l H1 nl e1 hl => ?_
    have hlx : l ≠ x := fun z => by
      rw [z, hW.1] at nl
      cases nl
    have hsh := pt_sh L
    refine q_while (fun m σ' H' => ∃ (j : Nat) (us : List V) (ds : List PyData), σ' = [some (.ref x), some (.int (L : Int)), some (.ref l)] ∧ m = (ws.drop j).length ∧ Xp x H H' ∧ WAt C H' x dx wl ws j ∧ H' l = some (.lst us) ∧ PdAll H' us ds ∧ ds.length + (ws.drop j).length ≤ 2000 ∧
        seqF (ptL L) (ws.drop j).length (ws.drop j) ds = seqF (ptL L) (ws.drop i).length (ws.drop i) []) (ws.drop i).length
      ⟨i, [], [], rfl, rfl, Xp.ex e1, hW.ex e1, hl, .nil, by have := hok.1; rw [List.length_nil, List.length_drop]; omega, rfl⟩ ?_
    rintro m σ' H' ⟨j, us, ds, rfl, rfl, x1, hW1, hl1, hd1, hb1, hf1⟩
    cases hdr : ws.drop j with
    | nil =>
      have hj : ¬ j < ws.length := by
        have := drop_nil_iff.mp hdr
        omega
      refine ⟨false, et_is (et_and (b := false) (et_lt T rfl hW1) (fun z => absurd (of_decide_eq_true z) hj)) (Bool.and_false _), (fun z => nomatch z), fun _ H2 e2 => ?_⟩
      rw [hdr] at hf1
      have hf2 : seqF (ptL L) (ws.drop i).length (ws.drop i) [] = (ds, []) := hf1.symm
      refine ⟨_, rfl, "sequence", l, us, ds, rfl, e2 _ _ hl1, hd1.up e2, by omega, fun v H3 e3 hv => ?_⟩
      refine q v H3 j (x1.trans ((Xp.ex e2).trans (Xp.ex e3))) (e3 _ _ (e2 _ _ hW1.1)) ?_ ?_
      · rw [hdr]
        show [] = (seqF (ptL L) (ws.drop i).length (ws.drop i) []).2
        rw [hf2]
      · show Pd H3 v (joinD "sequence" (seqF (ptL L) (ws.drop i).length (ws.drop i) []).1)
        rw [hf2]
        exact hv
    | cons wd r =>
      obtain ⟨hget, hdr1, hlt⟩ := drop_cons hdr
      have hin : EvT (tTest (tOp (rIn K true) (tOp (rIxL K) (tFld K (tVar 0) "words") (tFld K (tVar 0) "at")) (tOp (rCatA K) (tTup (tCons (tC (.str "|")) tNil)) (tC (.ref aC))))) [some (.ref x), some (.int (L : Int)), some (.ref l)] H' (!stopW wd) := by
        refine et_is (et_test (ev_opW (ys := wvs ["|", ")", "}", "]"]) (ev_op (ev_fw rfl hW1.1 T.cl T.nW) (ev_fa rfl hW1.1 T.cl T.nA) (rv_ixL (sq_of hW1.2) (wvs_get hget))) ?_ (fun p H2 hp _ => rv_niT (st_of hp) rfl (flatS _)))) (by rw [stop_in])
        intro H2 e2 Q q
        refine ⟨sz_of (by show 1 ≤ 100000; decide), fun a na => ?_⟩
        have ea := Ex.new (o := .tup [.str "|"]) na
        exact ⟨a, aC, [.str "|"], wvs [")", "}", "]"], rfl, rfl, st_of upd_same, T.cls _, sz_of (by show 1 + 3 ≤ 100000; decide), (fun z => nomatch z), (fun _ z => nomatch z), fun _ _ c nc => q c _ (ea.trans (Ex.new nc)) upd_same⟩
      rw [hdr] at hf1 hb1
      cases hst : stopW wd with
      | true =>
        refine ⟨false, et_is (et_and (et_lt T rfl hW1) (fun _ => hin)) (by rw [hst]; exact Bool.and_false _), (fun z => nomatch z), fun _ H2 e2 => ?_⟩
        have hf2 : seqF (ptL L) (ws.drop i).length (ws.drop i) [] = (ds, wd :: r) := by
          rw [← hf1, seq_stop _ _ (.inr ⟨wd, r, rfl, hst⟩)]
        refine ⟨_, rfl, "sequence", l, us, ds, rfl, e2 _ _ hl1, hd1.up e2, by omega, fun v H3 e3 hv => ?_⟩
        refine q v H3 j (x1.trans ((Xp.ex e2).trans (Xp.ex e3))) (e3 _ _ (e2 _ _ hW1.1)) ?_ ?_
        · rw [hdr]
          show wd :: r = (seqF (ptL L) (ws.drop i).length (ws.drop i) []).2
          rw [hf2]
        · show Pd H3 v (joinD "sequence" (seqF (ptL L) (ws.drop i).length (ws.drop i) []).1)
          rw [hf2]
          exact hv
      | false =>
        refine ⟨true, et_is (et_and (et_lt T rfl hW1) (fun _ => hin)) (by rw [hst, decide_eq_true hlt]; rfl), fun _ H2 e2 => ?_, (fun z => nomatch z)⟩
        refine ⟨_, fun σ2 H2 z => z, ?_⟩
        have hW2 := hW1.ex e2
        refine ⟨.ref l, rfl, .inl ⟨rfl, us, sq_of (e2 _ _ hl1)⟩, .ref x, rfl, x, dx, _, rfl, hW2.1, rfl, _, rfl, x, dx, wl, ws, j, rfl, hW2, hok, (by rw [hdr]; intro z; cases z), fun v H3 j3 x3 hx3 hj3 hv3 => ?_⟩
        rw [hdr] at hj3 hv3
        have hl3 : H3 l = some (.lst us) := x3 _ _ hlx (e2 _ _ hl1)
        have hd3 : PdAll H3 us ds := (hd1.up e2).ts (Ts.xp x3 hW2.1 (fun xs z => by cases z))
        have hul := hd1.length
        have hrl := hsh wd r
        refine ⟨l, us, v, rfl, rfl, hl3, sz_lt (by omega), ?_⟩
        refine ⟨(ws.drop j3).length, by rw [hj3]; exact Nat.lt_succ_of_le hrl, j3, us ++ [v], ds ++ [(ptL L (wd :: r)).1], rfl, rfl, ?_, ?_, upd_same, ?_, ?_, ?_⟩
        · exact (x1.trans ((Xp.ex e2).trans x3)).mut nl
        · refine ⟨?_, ?_⟩
          · rw [upd_ne (fun z => hlx z.symm)]
            exact hx3
          · rw [upd_ne]
            · exact x3 _ _ hW2.ne hW2.2
            · intro z
              rw [← z] at nl
              rw [hW.2] at nl
              cases nl
        · exact (hd3.snoc hv3).ts (Ts.lst hl3)
        · rw [List.length_append, hj3]
          have : (wd :: r).length = r.length + 1 := rfl
          show ds.length + 1 + _ ≤ 2000
          omega
        · rw [hj3, ← hf1, seqF_cons hsh hst]
theorem ok_wC (T : WoC K mg w C fI fC fS fP dI dC dS dP fT fJ fL aB aC dT dJ dL) {k : Nat} (L : Nat) (G : FnOk P w K mg base CX0 (k + 1) fS dS ["self", "levels"] (spWS C L)) : FnOk P w K mg base CX0 (k + 2) fC dC ["self", "levels"] (spWC C L) := by
  have bS : Binds K dS ["self", "levels"] [] := T.Sq.binds fun _ _ _ _ _ _ us hl => match us, hl with | [_, _], _ => rfl
  have GJ : FnOk P w K mg base CX0 (k + 1) fJ dJ ["kind", "parts"] spJoin := ok_join T
  obtain ⟨tb, hbar⟩ := T.bar
  refine T.Ch.ok scWCho (fun vs H Q E h => ?_) (fun cdv A outer s H vs Q E hr h => ?_)
  · obtain ⟨x, dx, wl, ws, i, rfl, _⟩ := h
    rfl
  · obtain ⟨x, dx, wl, ws, i, rfl, hW, hok, _, q⟩ := h
    refine ⟨_, pss_cons (ps_set (i := 2) scWCho.nd rfl (.inl rfl) (pe_lst (pa_cons (pe_meth (pv 0) T.cl T.mS G hr bS .nil pass0 (pa_cons (pv 1) pa_nil)) pa_nil)))
      (pss_cons (ps_while PassesOwn.never (PW.pt (pw_and (pt_cmpR op_lt (pe_fld (pv 0) rfl) (pe_callB call_len_seq (by rfl) T.ml PySem.boot_len (pa_cons (pe_fld (pv 0) rfl) pa_nil)) (nomark _))
          (pw_and1 (pt_cmpR op_eq (pe_ix ix_list (pe_fld (pv 0) rfl) (pe_fld (pv 0) rfl) (fun _ _ => rfl)) (pe_glob (v := .str "|") (by rfl) hbar ⟨_, rfl⟩) (nomark _)))))
        (pss_cons (ps_fldaug (pv 0) pe_int iop_add)
        (pss_one (ps_expr (pe_bm PySem.F.plainAttrs_list PySem.F.slot_list_append PySem.F.type_list_append mt_append (pv 2) (pa_cons (pe_meth (pv 0) T.cl T.mS G hr bS .nil pass0 (pa_cons (pv 1) pa_nil)) pa_nil))))))
      (pss_one (ps_ret (pe_call GJ hr (by rfl) T.gJ T.Jn.kp (b_jn T) .nil pass0 (pa_cons pe_str (pa_cons (pv 2) pa_nil)))))), ?_⟩
    have hsh := sq_sh L
    rw [chL_eq] at q
    refine ⟨.ref x, rfl, x, dx, _, rfl, hW.1, rfl, _, rfl, x, dx, wl, ws, i, rfl, hW, hok, trivial, fun v0 H0 i0 x0 hx0 hi0 hv0 => ⟨sz_of (by show 1 ≤ 100000; decide), fun l nl => ?_⟩⟩
    have hW0 := hW.step x0 hx0
    have e1 := Ex.new (o := .lst [v0]) nl
    have hlx : l ≠ x := fun z => by
      rw [z, hx0] at nl
      cases nl
    have hlw : l ≠ wl := fun z => by
      rw [z, hW0.2] at nl
      cases nl
    have hlH : H l = none := by
      cases hh : H l with
      | none => rfl
      | some o =>
        rw [x0 _ _ hlx hh] at nl
        cases nl
    have hfin : choR (sqL L) (ws.drop i) = (joinD "choice" (choF (sqL L) (ws.drop i0).length (ws.drop i0) [(sqL L (ws.drop i)).1]).1, (choF (sqL L) (ws.drop i0).length (ws.drop i0) [(sqL L (ws.drop i)).1]).2) := by
      unfold choR
      rw [hi0]
    refine q_while (fun m σ' H' => ∃ (j : Nat) (us : List V) (ds : List PyData), σ' = [some (.ref x), some (.int (L : Int)), some (.ref l)] ∧ m = (ws.drop j).length ∧ Xp x H H' ∧ WAt C H' x dx wl ws j ∧ H' l = some (.lst us) ∧ PdAll H' us ds ∧ ds.length + (ws.drop j).length ≤ 1501 ∧ ds.length ≤ 2000 ∧
        choF (sqL L) (ws.drop j).length (ws.drop j) ds = choF (sqL L) (ws.drop i0).length (ws.drop i0) [(sqL L (ws.drop i)).1]) (ws.drop i0).length
      ⟨i0, [v0], [(sqL L (ws.drop i)).1], rfl, rfl, x0.trans (Xp.ex e1), hW0.ex e1, upd_same, .cons (hv0.up e1) .nil, by have := hok.1; rw [List.length_singleton, List.length_drop]; omega, by show 1 ≤ 2000; decide, rfl⟩ ?_
    rintro m σ' H' ⟨j, us, ds, rfl, rfl, x1, hW1, hl1, hd1, hb1, hb2, hf1⟩
    have done : ∀ (rest : List Str) (H2 : Hp), Ex H' H2 → ws.drop j = rest → StopC rest ∨ (∃ wd r, rest = wd :: r ∧ wd ≠ sBar) → tRet (tCall spJoin [] E0 (tCons (tC (.str "choice")) (tCons (tVar 2) tNil))) { nx := fun _ H' => Q .non H', rt := Q } [some (.ref x), some (.int (L : Int)), some (.ref l)] H2 := by
      intro rest H2 e2 hdr hst
      have hf2 : choF (sqL L) (ws.drop i0).length (ws.drop i0) [(sqL L (ws.drop i)).1] = (ds, rest) := by
        rw [← hf1, hdr]
        rcases hst with h | ⟨wd, r, rfl, hne⟩
        · exact cho_stop _ _ h _
        · show (if wd = "|" then _ else (ds, wd :: r)) = _
          rw [if_neg hne]
      refine ⟨_, rfl, "choice", l, us, ds, rfl, e2 _ _ hl1, hd1.up e2, hb2, fun v H3 e3 hv => ?_⟩
      refine q v H3 j (x1.trans ((Xp.ex e2).trans (Xp.ex e3))) (e3 _ _ (e2 _ _ hW1.1)) ?_ ?_
      · rw [hfin, hf2, hdr]
      · rw [hfin, hf2]
        exact hv
    cases hdr : ws.drop j with
    | nil =>
      have hj : ¬ j < ws.length := by
        have := drop_nil_iff.mp hdr
        omega
      exact ⟨false, et_is (et_and (b := false) (et_lt T rfl hW1) (fun z => absurd (of_decide_eq_true z) hj)) (Bool.and_false _), (fun z => nomatch z), fun _ H2 e2 => done [] H2 e2 hdr (.inl (.inl rfl))⟩
    | cons wd r =>
      obtain ⟨hget, hdr1, hlt⟩ := drop_cons hdr
      have hin : EvT (tTest (tOp rEq (tOp (rIxL K) (tFld K (tVar 0) "words") (tFld K (tVar 0) "at")) (tC (.str "|")))) [some (.ref x), some (.int (L : Int)), some (.ref l)] H' (decide (wd = "|")) :=
        et_is (et_test (ev_op (ev_op (ev_fw rfl hW1.1 T.cl T.nW) (ev_fa rfl hW1.1 T.cl T.nA) (rv_ixL (sq_of hW1.2) (wvs_get hget))) ev_c (rv_eq rfl))) (Es.eq_str _ _)
      by_cases hst : wd = "|"
      · subst hst
        rw [hdr] at hf1 hb1
        refine ⟨true, et_is (et_and (et_lt T rfl hW1) (fun _ => hin)) (by rw [decide_eq_true hlt]; rfl), fun _ H2 e2 => ?_, (fun z => nomatch z)⟩
        refine ⟨_, fun σ2 H2 z => z, ?_⟩
        have hW2 := hW1.ex e2
        refine q_at rfl hW2.1 T.cl T.nA ?_
        have x3 : Xp x H (upd H2 x (.ins C dx (wf wl (j + 1)))) := (x1.trans (Xp.ex e2)).put
        have hW3 : WAt C (upd H2 x (.ins C dx (wf wl (j + 1)))) x dx wl ws (j + 1) := hW2.step Xp.upd upd_same
        have hl3 : upd H2 x (.ins C dx (wf wl (j + 1))) l = some (.lst us) := by
          rw [upd_ne hlx]
          exact e2 _ _ hl1
        have hd3 : PdAll (upd H2 x (.ins C dx (wf wl (j + 1)))) us ds := (hd1.up e2).ts (Ts.xp (x := x) Xp.upd hW2.1 (fun xs z => by cases z))
        generalize upd H2 x (.ins C dx (wf wl (j + 1))) = H3 at x3 hW3 hl3 hd3
        refine ⟨.ref l, rfl, .inl ⟨rfl, us, sq_of hl3⟩, .ref x, rfl, x, dx, _, rfl, hW3.1, rfl, _, rfl, x, dx, wl, ws, j + 1, rfl, hW3, hok, trivial, fun v H4 j4 x4 hx4 hj4 hv4 => ?_⟩
        rw [hdr1] at hj4 hv4
        have hl4 : H4 l = some (.lst us) := x4 _ _ hlx hl3
        have hd4 : PdAll H4 us ds := hd3.ts (Ts.xp x4 hW3.1 (fun xs z => by cases z))
        have hul := hd1.length
        have hrl := hsh r
        have hrr : (("|" : Str) :: r).length = r.length + 1 := rfl
        refine ⟨l, us, v, rfl, rfl, hl4, sz_lt (by omega), ?_⟩
        refine ⟨(ws.drop j4).length, by rw [hj4]; exact Nat.lt_succ_of_le hrl, j4, us ++ [v], ds ++ [(sqL L r).1], rfl, rfl, ?_, ?_, upd_same, ?_, ?_, ?_, ?_⟩
        · exact (x3.trans x4).mut hlH
        · refine ⟨?_, ?_⟩
          · rw [upd_ne (fun z => hlx z.symm)]
            exact hx4
          · rw [upd_ne (fun z => hlw z.symm)]
            exact x4 _ _ hW3.ne hW3.2
        · exact (hd4.snoc hv4).ts (Ts.lst hl4)
        · rw [List.length_append, hj4]
          show ds.length + 1 + _ ≤ 1501
          omega
        · rw [List.length_append]
          show ds.length + 1 ≤ 2000
          omega
        · rw [hj4, ← hf1]
          exact (choF_cons hsh).symm
      · exact ⟨false, et_is (et_and (et_lt T rfl hW1) (fun _ => hin)) (by rw [decide_eq_false hst]; exact Bool.and_false _), (fun z => nomatch z), fun _ H2 e2 => done (wd :: r) H2 e2 hdr (.inr ⟨wd, r, rfl, hst⟩)⟩
theorem ok_words (T : WoC K mg w C fI fC fS fP dI dC dS dP fT fJ fL aB aC dT dJ dL) : ∀ L : Nat, FnOk P w K mg base CX0 (3 * L + 5) fC dC ["self", "levels"] (spWC C L)
  | 0 => ok_wC T 0 (k := 3) (ok_wS T 0 (k := 2) (ok_wP T 0 (k := 0) ⟨fun _ _ _ _ h => h.elim, fun _ _ _ _ _ _ _ _ _ _ _ _ _ h => h.elim⟩))
  | L + 1 => ok_wC T (L + 1) (k := 3 * L + 6) (ok_wS T (L + 1) (k := 3 * L + 5) (ok_wP T (L + 1) (k := 3 * L + 3) (ok_words T L)))
end
end K52
namespace Es
open PySem PySem.Spec PyProof.Rows L2 Evl
mutual
def Tr.nl : Tr → Nat
  | .leaf _ _ => 1
  | .node _ ps => Tr.nls ps
def Tr.nls : List Tr → Nat
  | [] => 0
  | t :: r => t.nl + Tr.nls r
end
theorem inD_str (k : Str) : ∀ zs : List Str, inD (.str k) zs = decide (k ∈ zs)
  | [] => rfl
  | z :: r => by
    show (isT z (.str k) || inD (.str k) r) = _
    rw [inD_str k r]
    show ((k == z) || decide (k ∈ r)) = _
    by_cases h : k = z
    · subst h
      rw [show (k == k) = true from beq_self_eq_true _, Bool.true_or]
      exact (decide_eq_true (List.mem_cons_self ..)).symm
    · rw [beq_eq_false_iff_ne.mpr h, Bool.false_or]
      exact decide_eq_decide.mpr ⟨fun z => List.mem_cons_of_mem _ z, fun z => (List.mem_cons.mp z).elim (fun y => absurd y h) id⟩
theorem kind_not_leaf {k : Str} {n : Nat} (h : kindOk k n) : k ∉ (["token", "block"] : List Str) := by
  rcases h with ⟨h | h, _⟩ | ⟨h | h, _⟩ <;> subst h <;> decide +kernel
theorem fit_kind {k : Str} {n : Nat} (h : kindOk k n) : fitD (.str k) n = true := by
  unfold fitD
  rcases h with ⟨hk, hn⟩ | ⟨hk, hn⟩
  · rw [show inD (.str k) ["repeat", "optional"] = true from by rcases hk with e | e <;> subst e <;> decide +kernel]
    exact decide_eq_true hn
  · rw [show inD (.str k) ["repeat", "optional"] = false from by rcases hk with e | e <;> subst e <;> decide +kernel, show inD (.str k) ["sequence", "choice"] = true from by rcases hk with e | e <;> subst e <;> decide +kernel, decide_eq_true hn.1, decide_eq_true hn.2]
    rfl
mutual
theorem nl_pos : ∀ t : Tr, t.fine → 1 ≤ t.nl
  | .leaf k n, _ => Nat.le_refl _
  | .node k ps, h => by
    have hl : 1 ≤ ps.length := by
      rcases h.1 with ⟨_, h⟩ | ⟨_, h, _⟩ <;> omega
    have := nls_pos ps h.2
    show 1 ≤ Tr.nls ps
    omega
theorem nls_pos : ∀ ps : List Tr, Tr.fines ps → ps.length ≤ Tr.nls ps
  | [], _ => Nat.le_refl _
  | t :: r, h => by
    have h1 := nl_pos t h.1
    have h2 := nls_pos r h.2
    show r.length + 1 ≤ t.nl + Tr.nls r
    omega
end
mutual
theorem cnt_nl : ∀ (t : Tr) (L : Nat), t.fine → t.dep < L → t.nl ≤ 16 → cnt L t.toD = (t.nl : Int)
  | .leaf k n, 0, _, h, _ => absurd h (Nat.not_lt_zero _)
  | .leaf k n, L + 1, hf, _, _ => by
    show (if inD (.str k) ["token", "block"] then (if decide (([] : List PyData).length = 0) && tokD (.str n) then 1 else 0) else _) = (1 : Int)
    have h1 : inD (.str k) ["token", "block"] = true := by
      rw [inD_str]
      exact decide_eq_true hf.1
    have h2 : tokD (.str n) = true := hf.2
    rw [h1, h2]
    rfl
  | .node k ps, 0, _, h, _ => absurd h (Nat.not_lt_zero _)
  | .node k [], L + 1, hf, _, _ => by
    rcases hf.1 with ⟨_, h⟩ | ⟨_, h, _⟩
    · cases h
    · have h' : 2 ≤ 0 := h
      omega
  | .node k (q :: r), L + 1, hf, hd, hn => by
    have hd' : Tr.deps (q :: r) + 1 < L + 1 := hd
    have hn' : Tr.nls (q :: r) ≤ 16 := hn
    have hlp := cnts_nl (q :: r) L 0 hf.2 (by omega) (by omega)
    show (if inD (.str k) ["token", "block"] then _ else if fitD (.str k) ((Tr.toDs r).length + 1) then loop (cnt L) (q.toD :: Tr.toDs r) 0 else 0) = (Tr.nls (q :: r) : Int)
    have h1 : inD (.str k) ["token", "block"] = false := by
      rw [inD_str]
      exact decide_eq_false (kind_not_leaf hf.1)
    have h2 : fitD (.str k) ((Tr.toDs r).length + 1) = true := by
      rw [toDs_len]
      exact fit_kind hf.1
    rw [h1, h2, if_neg (by decide), if_pos rfl]
    have e : loop (cnt L) (q.toD :: Tr.toDs r) 0 = ((0 : Nat) : Int) + (Tr.nls (q :: r) : Int) := hlp
    rw [e]
    omega
theorem cnts_nl : ∀ (ps : List Tr) (L t : Nat), Tr.fines ps → Tr.deps ps < L → t + Tr.nls ps ≤ 16 → loop (cnt L) (Tr.toDs ps) (t : Int) = (t : Int) + (Tr.nls ps : Int)
  | [], L, t, _, _, _ => by
    show (t : Int) = (t : Int) + ((0 : Nat) : Int)
    omega
  | q :: r, L, t, hf, hd, hn => by
    have hd' : max q.dep (Tr.deps r) < L := hd
    have hn' : t + (q.nl + Tr.nls r) ≤ 16 := hn
    have h1 := cnt_nl q L hf.1 (by omega) (by omega)
    have hp := nl_pos q hf.1
    have h2 := cnts_nl r L (t + q.nl) hf.2 (by omega) (by omega)
    show (if cnt L q.toD = 0 then 0 else if 16 < (t : Int) + cnt L q.toD then (t : Int) + cnt L q.toD else loop (cnt L) (Tr.toDs r) ((t : Int) + cnt L q.toD)) = (t : Int) + ((q.nl + Tr.nls r : Nat) : Int)
    rw [h1, if_neg (by omega), if_neg (by omega), show (t : Int) + (q.nl : Int) = ((t + q.nl : Nat) : Int) by omega, h2]
    omega
end
theorem okE_tr {t : Tr} (hf : t.fine) (hd : t.dep ≤ 7) (hn : t.nl ≤ 16) : okE t.toD = true := by
  have h := cnt_nl t 8 hf (by omega) hn
  have hp := nl_pos t hf
  unfold okE
  rw [h, decide_eq_true (show (1 : Int) ≤ (t.nl : Int) by omega), decide_eq_true (show (t.nl : Int) ≤ 16 by omega)]
  rfl
/-! how large it is -/
mutual
theorem wid_le : ∀ t : Tr, t.fine → t.wid ≤ t.nl * (10 + 11 * t.dep)
  | .leaf k n, _ => Nat.le_refl _
  | .node k ps, h => by
    have hl : 1 ≤ ps.length := by
      rcases h.1 with ⟨_, h⟩ | ⟨_, h, _⟩ <;> omega
    have hp := nls_pos ps h.2
    have hw := wids_le ps h.2 (Tr.deps ps) (Nat.le_refl _)
    show 4 + Tr.wids ps ≤ Tr.nls ps * (10 + 11 * (Tr.deps ps + 1))
    have e : Tr.nls ps * (10 + 11 * (Tr.deps ps + 1)) = Tr.nls ps * (10 + 11 * Tr.deps ps) + 11 * Tr.nls ps := by
      rw [show 10 + 11 * (Tr.deps ps + 1) = (10 + 11 * Tr.deps ps) + 11 by omega, Nat.mul_add, Nat.mul_comm _ 11]
    rw [e]
    omega
theorem wids_le : ∀ ps : List Tr, Tr.fines ps → ∀ d, Tr.deps ps ≤ d → Tr.wids ps ≤ Tr.nls ps * (10 + 11 * d) + 7 * ps.length
  | [], _, _, _ => Nat.zero_le _
  | t :: r, h, d, hd => by
    have hd' : max t.dep (Tr.deps r) ≤ d := hd
    have h1 := wid_le t h.1
    have h2 := wids_le r h.2 d (by omega)
    have h3 : t.nl * (10 + 11 * t.dep) ≤ t.nl * (10 + 11 * d) := Nat.mul_le_mul (Nat.le_refl _) (by omega)
    show t.wid + 7 + Tr.wids r ≤ (t.nl + Tr.nls r) * (10 + 11 * d) + 7 * (r.length + 1)
    rw [Nat.add_mul]
    omega
end
theorem wid_small {t : Tr} (hf : t.fine) (hd : t.dep ≤ 7) (hn : t.nl ≤ 16) : t.wid ≤ 1392 := by
  have h := wid_le t hf
  have h2 : t.nl * (10 + 11 * t.dep) ≤ 16 * 87 := Nat.mul_le_mul hn (by omega)
  omega
theorem lets_small : ∀ c ∈ abcS.cps.toList, c < 16 ^ 8 := by decide +kernel
theorem tok_all {n : Str} (h : tokS n = true) : ∀ c ∈ n.cps.toList, c ∈ abcS.cps.toList := by
  unfold tokS at h
  rw [Bool.and_eq_true, Bool.and_eq_true] at h
  intro c hc
  have h2 := List.all_eq_true.mp h.2 (decide (c ∈ abcS.cps.toList)) (List.mem_map.mpr ⟨c, hc, rfl⟩)
  exact of_decide_eq_true h2
theorem tok_short {n : Str} (h : tokS n = true) : (n.cps.toList.all fun c => decide (c < 16 ^ 8)) = true := List.all_eq_true.mpr fun c hc => decide_eq_true (lets_small c (tok_all h c hc))
theorem kinds_short : ∀ k ∈ (["token", "block", "repeat", "optional", "sequence", "choice"] : List Str), k.cps.size ≤ 8 ∧ (k.cps.toList.all fun c => decide (c < 16 ^ 8)) = true := by decide +kernel
mutual
theorem fine_data : ∀ t : Tr, t.fine → t.toD.showable = true ∧ t.toD.leavesShort 30 = true ∧ t.toD.bulk ≤ t.nl * (18 + 10 * t.dep) ∧ t.toD.depth = t.dep + 1
  | .leaf k n, h => by
    have hk := kinds_short k (by
      have h1 : k ∈ (["token", "block"] : List Str) := h.1
      simp only [List.mem_cons, List.not_mem_nil, or_false] at h1 ⊢
      rcases h1 with e | e <;> simp [e])
    have hn := tok_len h.2
    refine ⟨rfl, ?_, ?_, rfl⟩
    · show ((k.cps.toList.all fun c => decide (c < 16 ^ 8)) && ((n.cps.toList.all fun c => decide (c < 16 ^ 8)) && true)) = true
      rw [hk.2, tok_short h.2]
      rfl
    · have hn' : n.cps.size ≤ 8 := hn.2
      have hk' := hk.1
      show k.cps.size + 1 + (n.cps.size + 1 + 0) ≤ 1 * (18 + 10 * 0)
      omega
  | .node k ps, h => by
    have hk := kinds_short k (by
      have h1 := h.1
      simp only [List.mem_cons, List.not_mem_nil, or_false]
      rcases h1 with ⟨e | e, _⟩ | ⟨e | e, _⟩ <;> simp [e])
    have hl : 1 ≤ ps.length := by
      rcases h.1 with ⟨_, h⟩ | ⟨_, h, _⟩ <;> omega
    have hp := nls_pos ps h.2
    obtain ⟨a1, a2, a3, a4⟩ := fines_data ps h.2 (Tr.deps ps) (Nat.le_refl _)
    refine ⟨?_, ?_, ?_, ?_⟩
    · show (true && PyData.showableAll (Tr.toDs ps)) = true
      rw [a1]
      rfl
    · show ((k.cps.toList.all fun c => decide (c < 16 ^ 8)) && PyData.leavesShortAll 30 (Tr.toDs ps)) = true
      rw [hk.2, a2]
      rfl
    · have hk' := hk.1
      show k.cps.size + 1 + PyData.bulkAll (Tr.toDs ps) ≤ Tr.nls ps * (18 + 10 * (Tr.deps ps + 1))
      have e : Tr.nls ps * (18 + 10 * (Tr.deps ps + 1)) = Tr.nls ps * (18 + 10 * Tr.deps ps) + 10 * Tr.nls ps := by
        rw [show 18 + 10 * (Tr.deps ps + 1) = (18 + 10 * Tr.deps ps) + 10 by omega, Nat.mul_add, Nat.mul_comm _ 10]
      rw [e]
      omega
    · show max 0 (PyData.depthAll (Tr.toDs ps)) + 1 = Tr.deps ps + 1 + 1
      have := a4 (by intro z; rw [z] at hl; cases hl)
      omega
theorem fines_data : ∀ ps : List Tr, Tr.fines ps → ∀ d, Tr.deps ps ≤ d → PyData.showableAll (Tr.toDs ps) = true ∧ PyData.leavesShortAll 30 (Tr.toDs ps) = true ∧ PyData.bulkAll (Tr.toDs ps) ≤ Tr.nls ps * (18 + 10 * d) + ps.length ∧ (ps ≠ [] → PyData.depthAll (Tr.toDs ps) = Tr.deps ps + 1)
  | [], _, _, _ => ⟨rfl, rfl, Nat.zero_le _, fun h => absurd rfl h⟩
  | t :: r, h, d, hd => by
    have hd' : max t.dep (Tr.deps r) ≤ d := hd
    obtain ⟨b1, b2, b3, b4⟩ := fine_data t h.1
    obtain ⟨a1, a2, a3, a4⟩ := fines_data r h.2 d (by omega)
    refine ⟨?_, ?_, ?_, fun _ => ?_⟩
    · show (t.toD.showable && PyData.showableAll (Tr.toDs r)) = true
      rw [b1, a1]
      rfl
    · show (t.toD.leavesShort 30 && PyData.leavesShortAll 30 (Tr.toDs r)) = true
      rw [b2, a2]
      rfl
    · have h3 : t.nl * (18 + 10 * t.dep) ≤ t.nl * (18 + 10 * d) := Nat.mul_le_mul (Nat.le_refl _) (by omega)
      show t.toD.bulk + 1 + PyData.bulkAll (Tr.toDs r) ≤ (t.nl + Tr.nls r) * (18 + 10 * d) + (r.length + 1)
      rw [Nat.add_mul]
      omega
    · show max t.toD.depth (PyData.depthAll (Tr.toDs r)) = max t.dep (Tr.deps r) + 1
      cases r with
      | nil =>
        show max t.toD.depth 0 = max t.dep 0 + 1
        omega
      | cons u v =>
        have := a4 (by simp)
        omega
end
theorem fit_tr {t : Tr} (hf : t.fine) (hd : t.dep ≤ 7) (hn : t.nl ≤ 16) : Fit 190 t.toD := by
  obtain ⟨a1, a2, a3, a4⟩ := fine_data t hf
  have h2 : t.nl * (18 + 10 * t.dep) ≤ 16 * 88 := Nat.mul_le_mul hn (by omega)
  exact ⟨a1, a2, by omega, by omega⟩
/-! the words -/
def okWd (w : Str) : Prop := w.length ≤ 10 ∧ (∀ c ∈ w.cps.toList, c ≠ 32) ∧ (w.cps.toList.all fun c => decide (c < 16 ^ 8)) = true
theorem okWd_lit : ∀ w ∈ (["(", ")", "{", "}", "[", "]", "|"] : List Str), w.length ≤ 10 ∧ (∀ c ∈ w.cps.toList, c ≠ 32) ∧ (w.cps.toList.all fun c => decide (c < 16 ^ 8)) = true := by decide +kernel
theorem lets_not32 : ∀ c ∈ abcS.cps.toList, c ≠ 32 := by decide +kernel
theorem okWd_leaf {k n : Str} (h : tokS n = true) : okWd (leafS k n) := by
  have hl := tok_len h
  unfold leafS
  split
  · exact ⟨by omega, fun c hc => lets_not32 c (tok_all h c hc), tok_short h⟩
  · refine ⟨by rw [ang_len]; omega, ?_, ?_⟩
    · rw [ang_cps]
      intro c hc
      rcases List.mem_cons.mp hc with e | e
      · rw [e]
        decide
      · rcases List.mem_append.mp e with e | e
        · exact lets_not32 c (tok_all h c e)
        · rw [List.mem_singleton.mp e]
          decide
    · rw [ang_cps, List.all_cons, List.all_append, tok_short h]
      decide
theorem okWd_open (k : Str) : okWd (openS k) := by
  unfold openS
  split
  · exact okWd_lit _ (by decide +kernel)
  · exact okWd_lit _ (by decide +kernel)
theorem okWd_close (k : Str) : okWd (closeS k) := by
  unfold closeS
  split
  · exact okWd_lit _ (by decide +kernel)
  · exact okWd_lit _ (by decide +kernel)
theorem okWd_bar : ∀ {zs : List (List Str)}, (∀ z ∈ zs, ∀ w ∈ z, okWd w) → ∀ w ∈ barT zs, okWd w
  | [], _, w, hw => by cases hw
  | z :: r, h, w, hw => by
    have hw' : w ∈ sBar :: (z ++ barT r) := hw
    rcases List.mem_cons.mp hw' with e | e
    · rw [e]
      exact okWd_lit _ (by decide +kernel)
    · rcases List.mem_append.mp e with e | e
      · exact h z (List.mem_cons_self ..) w e
      · exact okWd_bar (fun y hy => h y (List.mem_cons_of_mem _ hy)) w e
mutual
theorem wd_ok : ∀ t : Tr, t.fine → ∀ w ∈ t.wd, okWd w
  | .leaf k n, h, w, hw => by
    have hw' : w ∈ [leafS k n] := hw
    rw [List.mem_singleton.mp hw']
    exact okWd_leaf h.2
  | .node k ps, h, w, hw => by
    have hz := wds_ok (inK k) ps h.2
    have hw' : w ∈ wdN k (Tr.wds (inK k) ps) := hw
    unfold wdN at hw'
    split at hw'
    · obtain ⟨z, h1, h2⟩ := List.mem_flatten.mp hw'
      exact hz z h1 w h2
    · split at hw'
      · cases hh : Tr.wds (inK k) ps with
        | nil =>
          rw [hh] at hw'
          cases hw'
        | cons z r =>
          rw [hh] at hw' hz
          have hw2 : w ∈ z ++ barT r := hw'
          rcases List.mem_append.mp hw2 with e | e
          · exact hz z (List.mem_cons_self ..) w e
          · exact okWd_bar (fun y hy => hz y (List.mem_cons_of_mem _ hy)) w e
      · rcases List.mem_cons.mp hw' with e | e
        · rw [e]
          exact okWd_open k
        · rcases List.mem_append.mp e with e | e
          · cases hh : Tr.wds (inK k) ps with
            | nil =>
              rw [hh] at e
              cases e
            | cons z r =>
              rw [hh] at e hz
              exact hz z (List.mem_cons_self ..) w e
          · rw [List.mem_singleton.mp e]
            exact okWd_close k
theorem wds_ok (ks : List Str) : ∀ ps : List Tr, Tr.fines ps → ∀ z ∈ Tr.wds ks ps, ∀ w ∈ z, okWd w
  | [], _, z, hz, _, _ => by cases hz
  | t :: r, h, z, hz, w, hw => by
    have hz' : z ∈ inBr (t.kind ∈ ks) t.wd :: Tr.wds ks r := hz
    rcases List.mem_cons.mp hz' with e | e
    · subst e
      unfold inBr at hw
      split at hw
      · rcases List.mem_cons.mp hw with e | e
        · rw [e]
          exact okWd_lit _ (by decide +kernel)
        · rcases List.mem_append.mp e with e | e
          · exact wd_ok t h.1 w e
          · rw [List.mem_singleton.mp e]
            exact okWd_lit _ (by decide +kernel)
      · exact wd_ok t h.1 w hw
    · exact wds_ok ks r h.2 z e w hw
end
/-- the words of what is written -/
theorem split_sh {t : Tr} (h : t.fine) : Txt.split t.sh " " = t.wd := by
  rw [sh_wd t h, ← TL.join_eq]
  refine TL.split_join (s := 32) (S := []) (by decide +kernel) (by decide +kernel) (wd_ne t h) fun p hp hc => ?_
  exact (wd_ok t h p hp).2.1 32 hc rfl
theorem join_count : ∀ {ws : List Str}, (∀ w ∈ ws, True) → ws.length ≤ (Str.join " " ws).length + 1
  | [], _ => Nat.zero_le _
  | [x], _ => Nat.le_add_left _ _
  | x :: y :: r, h => by
    have := join_count (ws := y :: r) fun _ _ => trivial
    show (y :: r).length + 1 ≤ (x ++ " " ++ Str.join " " (y :: r)).length + 1
    rw [Str.length_append, Str.length_append]
    have e : ((" " : Str)).length = 1 := by decide +kernel
    omega
end Es
namespace Es
open PySem PySem.Spec PyProof.Rows L2 Evl
/-! what is_expression accepts is an expression -/
theorem loop_inv (f : PyData → Int) (hf : ∀ q, 0 ≤ f q) : ∀ (qs : List PyData) (t : Int), 0 ≤ t → 1 ≤ loop f qs t → loop f qs t ≤ 16 → (∀ q ∈ qs, 1 ≤ f q ∧ f q ≤ 16) ∧ loop f qs t = t + (qs.map f).sum
  | [], t, _, _, _ => ⟨(fun q h => by cases h), by show t = t + 0; omega⟩
  | q :: qs, t, ht, h1, h2 => by
    have hq := hf q
    have e : loop f (q :: qs) t = if f q = 0 then 0 else if 16 < t + f q then t + f q else loop f qs (t + f q) := rfl
    by_cases c0 : f q = 0
    · rw [e, if_pos c0] at h1
      omega
    rw [e, if_neg c0] at h1 h2 ⊢
    by_cases c1 : 16 < t + f q
    · rw [if_pos c1] at h2
      omega
    rw [if_neg c1] at h1 h2 ⊢
    obtain ⟨a, b⟩ := loop_inv f hf qs (t + f q) (by omega) h1 h2
    refine ⟨fun y hy => ?_, ?_⟩
    · rcases List.mem_cons.mp hy with z | z
      · rw [z]
        omega
      · exact a y z
    · rw [b, List.map_cons, List.sum_cons]
      omega
theorem inD_inv {d : PyData} {zs : List Str} (h : inD d zs = true) : ∃ k ∈ zs, d = .str k := by
  cases d with
  | str k =>
    rw [inD_str] at h
    exact ⟨k, of_decide_eq_true h, rfl⟩
  | _ =>
    exfalso
    induction zs with
    | nil => cases h
    | cons z r ih =>
      apply ih
      exact h
theorem fitD_inv {d : PyData} {n : Nat} (h : fitD d n = true) : ∃ k, d = .str k ∧ kindOk k n := by
  unfold fitD at h
  by_cases c : inD d ["repeat", "optional"] = true
  · rw [if_pos c] at h
    obtain ⟨k, hk, e⟩ := inD_inv c
    simp only [List.mem_cons, List.not_mem_nil, or_false] at hk
    exact ⟨k, e, .inl ⟨hk, of_decide_eq_true h⟩⟩
  · rw [if_neg c, Bool.and_eq_true, Bool.and_eq_true] at h
    obtain ⟨k, hk, e⟩ := inD_inv h.1
    simp only [List.mem_cons, List.not_mem_nil, or_false] at hk
    exact ⟨k, e, .inr ⟨hk, of_decide_eq_true h.2.1, of_decide_eq_true h.2.2⟩⟩
theorem trees_of (P : Tr → Prop) : ∀ ds : List PyData, (∀ d ∈ ds, ∃ t : Tr, P t ∧ d = t.toD) → ∃ ts : List Tr, (∀ t ∈ ts, P t) ∧ ds = Tr.toDs ts
  | [], _ => ⟨[], (fun t h => by cases h), rfl⟩
  | d :: ds, h => by
    obtain ⟨t, ht, e⟩ := h d (List.mem_cons_self ..)
    obtain ⟨ts, hts, es⟩ := trees_of P ds fun x hx => h x (List.mem_cons_of_mem _ hx)
    refine ⟨t :: ts, fun x hx => ?_, ?_⟩
    · rcases List.mem_cons.mp hx with z | z
      · rw [z]
        exact ht
      · exact hts x z
    · show d :: ds = t.toD :: Tr.toDs ts
      rw [e, es]
theorem fines_all : ∀ {ts : List Tr}, (∀ t ∈ ts, t.fine) → Tr.fines ts
  | [], _ => trivial
  | t :: r, h => ⟨h t (List.mem_cons_self ..), fines_all fun x hx => h x (List.mem_cons_of_mem _ hx)⟩
theorem deps_all : ∀ {ts : List Tr} {n : Nat}, (∀ t ∈ ts, t.dep < n) → 0 < n → Tr.deps ts < n
  | [], n, _, h => h
  | t :: r, n, h, h0 => by
    have h1 := h t (List.mem_cons_self ..)
    have h2 := deps_all (fun x hx => h x (List.mem_cons_of_mem _ hx)) h0
    show max t.dep (Tr.deps r) < n
    omega
theorem tokD_inv {d : PyData} (h : tokD d = true) : ∃ n, d = .str n ∧ tokS n = true := by
  cases d with
  | str n => exact ⟨n, rfl, h⟩
  | _ => cases h
theorem sum_nls (g : PyData → Int) : ∀ ts : List Tr, (∀ t ∈ ts, g t.toD = (t.nl : Int)) → ((Tr.toDs ts).map g).sum = (Tr.nls ts : Int)
  | [], _ => rfl
  | t :: r, h => by
    show (g t.toD :: (Tr.toDs r).map g).sum = ((t.nl + Tr.nls r : Nat) : Int)
    rw [List.sum_cons, h t (List.mem_cons_self ..), sum_nls g r fun x hx => h x (List.mem_cons_of_mem _ hx)]
    omega
theorem cnt_inv : ∀ (L : Nat) (d : PyData), 1 ≤ cnt L d → cnt L d ≤ 16 → ∃ t : Tr, (t.fine ∧ t.dep < L ∧ cnt L t.toD = (t.nl : Int)) ∧ d = t.toD
  | 0, d, h, _ => by
    have : (1 : Int) ≤ 0 := h
    omega
  | L + 1, d, h1, h2 => by
    have bad : ¬ (1 : Int) ≤ 0 := by decide
    match d with
    | .none => exact absurd h1 bad
    | .bool _ => exact absurd h1 bad
    | .int _ => exact absurd h1 bad
    | .str _ => exact absurd h1 bad
    | .list _ => exact absurd h1 bad
    | .dict _ => exact absurd h1 bad
    | .tuple [] => exact absurd h1 bad
    | .tuple [_] => exact absurd h1 bad
    | .tuple (h :: x :: r) =>
      have e : cnt (L + 1) (.tuple (h :: x :: r)) = if inD h ["token", "block"] then (if decide (r.length = 0) && tokD x then 1 else 0) else if fitD h (r.length + 1) then loop (cnt L) (x :: r) 0 else 0 := rfl
      by_cases c1 : inD h ["token", "block"] = true
      · rw [e, if_pos c1] at h1
        obtain ⟨k, hk, rfl⟩ := inD_inv c1
        by_cases c2 : (decide (r.length = 0) && tokD x) = true
        · rw [Bool.and_eq_true] at c2
          have hr : r = [] := List.eq_nil_of_length_eq_zero (of_decide_eq_true c2.1)
          subst hr
          obtain ⟨n, rfl, hn⟩ := tokD_inv c2.2
          have hf : (Tr.leaf k n).fine := ⟨hk, hn⟩
          exact ⟨.leaf k n, ⟨hf, by show 0 < L + 1; omega, cnt_nl (.leaf k n) (L + 1) hf (by show 0 < L + 1; omega) (by show 1 ≤ 16; decide)⟩, rfl⟩
        · rw [if_neg c2] at h1
          exact absurd h1 bad
      · rw [e, if_neg c1] at h1 h2
        by_cases c2 : fitD h (r.length + 1) = true
        · rw [if_pos c2] at h1 h2
          obtain ⟨k, rfl, hk⟩ := fitD_inv c2
          obtain ⟨ha, hs⟩ := loop_inv (cnt L) (cnt_nn L) (x :: r) 0 (by decide) h1 h2
          obtain ⟨ts, hts, ets⟩ := trees_of (fun t => t.fine ∧ t.dep < L ∧ cnt L t.toD = (t.nl : Int)) (x :: r) fun q hq => cnt_inv L q (ha q hq).1 (ha q hq).2
          have hl : ts.length = r.length + 1 := by
            have := congrArg List.length ets
            rw [toDs_len] at this
            exact this.symm
          have hsum := sum_nls (cnt L) ts fun t ht => (hts t ht).2.2
          rw [← ets] at hsum
          rw [hs, hsum] at h2
          have hL : 0 < L := by
            cases ts with
            | nil => cases hl
            | cons t _ =>
              have := (hts t (List.mem_cons_self ..)).2.1
              omega
          have hf : (Tr.node k ts).fine := ⟨by rw [hl]; exact hk, fines_all fun t ht => (hts t ht).1⟩
          have hd : (Tr.node k ts).dep < L + 1 := by
            have := deps_all (fun t ht => (hts t ht).2.1) hL
            show Tr.deps ts + 1 < L + 1
            omega
          have hn : (Tr.node k ts).nl ≤ 16 := by
            show Tr.nls ts ≤ 16
            omega
          refine ⟨.node k ts, ⟨hf, hd, cnt_nl _ (L + 1) hf hd hn⟩, ?_⟩
          show PyData.tuple (.str k :: x :: r) = .tuple (.str k :: Tr.toDs ts)
          rw [ets]
        · rw [if_neg c2] at h1
          exact absurd h1 bad
theorem okE_inv {d : PyData} (h : okE d = true) : ∃ t : Tr, (t.fine ∧ t.dep ≤ 7 ∧ t.nl ≤ 16) ∧ d = t.toD := by
  unfold okE at h
  rw [Bool.and_eq_true] at h
  have h2 := of_decide_eq_true h.2
  obtain ⟨t, ⟨a, b, c⟩, e⟩ := cnt_inv 8 d (of_decide_eq_true h.1) h2
  refine ⟨t, ⟨a, by omega, ?_⟩, e⟩
  rw [e, c] at h2
  omega
/-! how large what is read is -/
def wsz (ws : List Str) : Nat := (ws.map fun w => w.length + 32).sum
theorem wsz_cons (w : Str) (r : List Str) : wsz (w :: r) = w.length + 32 + wsz r := by
  unfold wsz
  rw [List.map_cons, List.sum_cons]
theorem wsz_drop : ∀ (ws : List Str) (n : Nat), wsz (ws.drop n) ≤ wsz ws
  | [], n => by rw [List.drop_nil]; exact Nat.le_refl _
  | w :: r, 0 => Nat.le_refl _
  | w :: r, n + 1 => by
    have := wsz_drop r n
    rw [List.drop_succ_cons, wsz_cons]
    omega
/-- data that can be shown, of short texts -/
def Lit (d : PyData) : Prop := d.showable = true ∧ d.leavesShort 30 = true
def Lits (ds : List PyData) : Prop := PyData.showableAll ds = true ∧ PyData.leavesShortAll 30 ds = true
theorem Lits.snoc {ds : List PyData} {d : PyData} (h : Lits ds) (k : Lit d) : Lits (ds ++ [d]) := by
  obtain ⟨a1, a2, _, _⟩ := all_app [d] ds
  unfold Lits
  rw [a1, a2, h.1, h.2]
  show (true && (d.showable && true)) = true ∧ (true && (d.leavesShort 30 && true)) = true
  rw [k.1, k.2]
  exact ⟨rfl, rfl⟩
theorem bulk_snoc (ds : List PyData) (d : PyData) : PyData.bulkAll (ds ++ [d]) = PyData.bulkAll ds + (d.bulk + 1) := by
  rw [(all_app [d] ds).2.2.1]
  show _ + (d.bulk + 1 + 0) = _
  omega
theorem dep_snoc (ds : List PyData) (d : PyData) : PyData.depthAll (ds ++ [d]) = max (PyData.depthAll ds) d.depth := by
  rw [(all_app [d] ds).2.2.2]
  show max _ (max d.depth 0) = _
  omega
theorem Lits.tup {k : Str} {ds : List PyData} (hk : (k.cps.toList.all fun c => decide (c < 16 ^ 8)) = true) (h : Lits ds) : Lit (.tuple (.str k :: ds)) := by
  refine ⟨?_, ?_⟩
  · show (true && PyData.showableAll ds) = true
    rw [h.1]
    rfl
  · show ((k.cps.toList.all fun c => decide (c < 16 ^ 8)) && PyData.leavesShortAll 30 ds) = true
    rw [hk, h.2]
    rfl
/-- what a reading gives: all of it is short, and no larger than what was read -/
def Rd1 (n D : Nat) (f : List Str → PyData × List Str) : Prop := ∀ ws, (∀ w ∈ ws, WdS w) → Lit (f ws).1 ∧ (f ws).1.bulk + wsz (f ws).2 ≤ wsz ws + n ∧ (f ws).1.depth ≤ D ∧ ∀ w ∈ (f ws).2, WdS w
theorem leaf_lit {w : Str} (h : WdS w) : Lit (leafD w) ∧ (leafD w).bulk ≤ w.length + 7 ∧ (leafD w).depth ≤ 1 := by
  have kt := kinds_short "token" (by decide +kernel)
  have kb := kinds_short "block" (by decide +kernel)
  unfold leafD
  split
  · refine ⟨⟨rfl, ?_⟩, ?_, by show max 0 (max 0 0) + 1 ≤ 1; decide⟩
    · show ((("token" : Str).cps.toList.all fun c => decide (c < 16 ^ 8)) && ((w.cps.toList.all fun c => decide (c < 16 ^ 8)) && true)) = true
      rw [kt.2, h.2]
      rfl
    · show 5 + 1 + (w.cps.size + 1 + 0) ≤ w.cps.size + 7
      omega
  · split
    · have hc := h.cut (some 1) (some (-1))
      have hl : (cutS w (some 1) (some (-1))).cps.size ≤ w.cps.size := cut_le w _ _
      refine ⟨⟨rfl, ?_⟩, ?_, by show max 0 (max 0 0) + 1 ≤ 1; decide⟩
      · show ((("block" : Str).cps.toList.all fun c => decide (c < 16 ^ 8)) && (((cutS w (some 1) (some (-1))).cps.toList.all fun c => decide (c < 16 ^ 8)) && true)) = true
        rw [kb.2, hc.2]
        rfl
      · show 5 + 1 + ((cutS w (some 1) (some (-1))).cps.size + 1 + 0) ≤ w.cps.size + 7
        omega
    · exact ⟨⟨rfl, rfl⟩, Nat.zero_le _, Nat.zero_le _⟩
theorem brk_kinds {w k : Str} (h : brk w = some k) : k.cps.size ≤ 8 ∧ (k.cps.toList.all fun c => decide (c < 16 ^ 8)) = true := by
  unfold brk at h
  split at h
  · cases h
    decide +kernel
  · split at h
    · cases h
      decide +kernel
    · split at h
      · cases h
        decide +kernel
      · cases h
theorem part_rd {ch : Option (List Str → PyData × List Str)} {D : Nat} (hD : 1 ≤ D) (h : ∀ c, ch = some c → Rd1 20 D c) : ∀ w r, WdS w → (∀ x ∈ r, WdS x) → Lit (partF ch (w :: r)).1 ∧ (partF ch (w :: r)).1.bulk + 1 + wsz (partF ch (w :: r)).2 ≤ wsz (w :: r) ∧ (partF ch (w :: r)).1.depth ≤ D + 1 ∧ ∀ x ∈ (partF ch (w :: r)).2, WdS x := by
  intro w r hw hr
  rw [wsz_cons]
  cases hb : brk w with
  | none =>
    have e : partF ch (w :: r) = (leafD w, r) := by
      unfold partF
      simp only [hb]
    rw [e]
    obtain ⟨a, b, c⟩ := leaf_lit hw
    exact ⟨a, by show (leafD w).bulk + 1 + wsz r ≤ _; omega, by show (leafD w).depth ≤ _; omega, hr⟩
  | some k =>
    cases ch with
    | none =>
      have e : partF none (w :: r) = (.none, r) := by
        unfold partF
        simp only [hb]
      rw [e]
      exact ⟨⟨rfl, rfl⟩, by show 0 + 1 + wsz r ≤ _; omega, Nat.zero_le _, hr⟩
    | some c =>
      have e : partF (some c) (w :: r) = (if w = "(" then (c r).1 else .tuple [.str k, (c r).1], (c r).2.drop 1) := by
        unfold partF
        simp only [hb]
      obtain ⟨a1, a2, a3, a4⟩ := h c rfl r hr
      have hk := brk_kinds hb
      have hd := wsz_drop (c r).2 1
      rw [e]
      refine ⟨?_, ?_, ?_, fun x hx => a4 x (List.mem_of_mem_drop hx)⟩
      · show Lit (if w = "(" then (c r).1 else .tuple [.str k, (c r).1])
        split
        · exact a1
        · exact Lits.tup hk.2 ⟨by show ((c r).1.showable && true) = true; rw [a1.1]; rfl, by show ((c r).1.leavesShort 30 && true) = true; rw [a1.2]; rfl⟩
      · show (if w = "(" then (c r).1 else PyData.tuple [.str k, (c r).1]).bulk + 1 + wsz ((c r).2.drop 1) ≤ _
        have hb2 : (if w = "(" then (c r).1 else PyData.tuple [.str k, (c r).1]).bulk ≤ (c r).1.bulk + 10 := by
          split
          · omega
          · have := hk.1
            show k.cps.size + 1 + ((c r).1.bulk + 1 + 0) ≤ _
            omega
        omega
      · show (if w = "(" then (c r).1 else PyData.tuple [.str k, (c r).1]).depth ≤ D + 1
        split
        · omega
        · show max 0 (max (c r).1.depth 0) + 1 ≤ D + 1
          omega
theorem seqF_rd {p : List Str → PyData × List Str} {D : Nat} (h : ∀ w r, WdS w → (∀ x ∈ r, WdS x) → Lit (p (w :: r)).1 ∧ (p (w :: r)).1.bulk + 1 + wsz (p (w :: r)).2 ≤ wsz (w :: r) ∧ (p (w :: r)).1.depth ≤ D ∧ ∀ x ∈ (p (w :: r)).2, WdS x) :
    ∀ (n : Nat) (ws : List Str) (acc : List PyData), (∀ w ∈ ws, WdS w) → Lits acc → PyData.depthAll acc ≤ D → Lits (seqF p n ws acc).1 ∧ PyData.bulkAll (seqF p n ws acc).1 + wsz (seqF p n ws acc).2 ≤ PyData.bulkAll acc + wsz ws ∧ PyData.depthAll (seqF p n ws acc).1 ≤ D ∧ ∀ w ∈ (seqF p n ws acc).2, WdS w
  | 0, ws, acc, hw, ha, hd => ⟨ha, Nat.le_refl _, hd, hw⟩
  | n + 1, [], acc, hw, ha, hd => ⟨ha, Nat.le_refl _, hd, hw⟩
  | n + 1, w :: r, acc, hw, ha, hd => by
    have e : seqF p (n + 1) (w :: r) acc = if stopW w = true then (acc, w :: r) else seqF p n (p (w :: r)).2 (acc ++ [(p (w :: r)).1]) := rfl
    rw [e]
    split
    · exact ⟨ha, Nat.le_refl _, hd, hw⟩
    · obtain ⟨b1, b2, b3, b4⟩ := h w r (hw w (List.mem_cons_self ..)) fun x hx => hw x (List.mem_cons_of_mem _ hx)
      obtain ⟨c1, c2, c3, c4⟩ := seqF_rd h n (p (w :: r)).2 (acc ++ [(p (w :: r)).1]) b4 (ha.snoc b1) (by rw [dep_snoc]; omega)
      refine ⟨c1, ?_, c3, c4⟩
      rw [bulk_snoc] at c2
      omega
theorem join_rd {k : Str} {ds : List PyData} {D : Nat} (hk : (k.cps.toList.all fun c => decide (c < 16 ^ 8)) = true) (hk8 : k.cps.size ≤ 8) (h : Lits ds) (hd : PyData.depthAll ds ≤ D) : Lit (joinD k ds) ∧ (joinD k ds).bulk ≤ PyData.bulkAll ds + 9 ∧ (joinD k ds).depth ≤ D + 1 := by
  have gen : Lit (.tuple (.str k :: ds)) ∧ (PyData.tuple (.str k :: ds)).bulk ≤ PyData.bulkAll ds + 9 ∧ (PyData.tuple (.str k :: ds)).depth ≤ D + 1 := by
    refine ⟨Lits.tup hk h, ?_, ?_⟩
    · show k.cps.size + 1 + PyData.bulkAll ds ≤ _
      omega
    · show max 0 (PyData.depthAll ds) + 1 ≤ D + 1
      omega
  match ds, h, hd, gen with
  | [], _, _, gen => exact gen
  | [d], h, hd, _ =>
    have h1 : (d.showable && true) = true := h.1
    have h2 : (d.leavesShort 30 && true) = true := h.2
    rw [Bool.and_true] at h1 h2
    refine ⟨⟨h1, h2⟩, ?_, ?_⟩
    · show d.bulk ≤ d.bulk + 1 + 0 + 9
      omega
    · have : max d.depth 0 ≤ D := hd
      show d.depth ≤ D + 1
      omega
  | _ :: _ :: _, _, _, gen => exact gen
theorem seqR_rd {p : List Str → PyData × List Str} {D : Nat} (h : ∀ w r, WdS w → (∀ x ∈ r, WdS x) → Lit (p (w :: r)).1 ∧ (p (w :: r)).1.bulk + 1 + wsz (p (w :: r)).2 ≤ wsz (w :: r) ∧ (p (w :: r)).1.depth ≤ D ∧ ∀ x ∈ (p (w :: r)).2, WdS x) : Rd1 9 (D + 1) (seqR p) := by
  intro ws hw
  obtain ⟨a1, a2, a3, a4⟩ := seqF_rd h ws.length ws [] hw ⟨rfl, rfl⟩ (Nat.zero_le _)
  have hk := kinds_short "sequence" (by decide +kernel)
  obtain ⟨b1, b2, b3⟩ := join_rd hk.2 hk.1 a1 a3
  refine ⟨b1, ?_, b3, a4⟩
  have a2' : PyData.bulkAll (seqF p ws.length ws []).1 + wsz (seqF p ws.length ws []).2 ≤ 0 + wsz ws := a2
  show (joinD "sequence" (seqF p ws.length ws []).1).bulk + wsz (seqF p ws.length ws []).2 ≤ _
  omega
theorem choF_rd {s : List Str → PyData × List Str} {D : Nat} (h : Rd1 9 D s) : ∀ (n : Nat) (ws : List Str) (acc : List PyData), (∀ w ∈ ws, WdS w) → Lits acc → PyData.depthAll acc ≤ D → Lits (choF s n ws acc).1 ∧ PyData.bulkAll (choF s n ws acc).1 + wsz (choF s n ws acc).2 ≤ PyData.bulkAll acc + wsz ws ∧ PyData.depthAll (choF s n ws acc).1 ≤ D ∧ ∀ w ∈ (choF s n ws acc).2, WdS w
  | 0, ws, acc, hw, ha, hd => ⟨ha, Nat.le_refl _, hd, hw⟩
  | n + 1, [], acc, hw, ha, hd => ⟨ha, Nat.le_refl _, hd, hw⟩
  | n + 1, w :: r, acc, hw, ha, hd => by
    have e : choF s (n + 1) (w :: r) acc = if w = "|" then choF s n (s r).2 (acc ++ [(s r).1]) else (acc, w :: r) := rfl
    rw [e]
    split
    · obtain ⟨b1, b2, b3, b4⟩ := h r fun x hx => hw x (List.mem_cons_of_mem _ hx)
      obtain ⟨c1, c2, c3, c4⟩ := choF_rd h n (s r).2 (acc ++ [(s r).1]) b4 (ha.snoc b1) (by rw [dep_snoc]; omega)
      refine ⟨c1, ?_, c3, c4⟩
      rw [bulk_snoc] at c2
      rw [wsz_cons]
      omega
    · exact ⟨ha, Nat.le_refl _, hd, hw⟩
theorem choR_rd {s : List Str → PyData × List Str} {D : Nat} (h : Rd1 9 D s) : Rd1 20 (D + 1) (choR s) := by
  intro ws hw
  obtain ⟨b1, b2, b3, b4⟩ := h ws hw
  have hl : Lits [(s ws).1] := ⟨by show ((s ws).1.showable && true) = true; rw [b1.1]; rfl, by show ((s ws).1.leavesShort 30 && true) = true; rw [b1.2]; rfl⟩
  obtain ⟨a1, a2, a3, a4⟩ := choF_rd h (s ws).2.length (s ws).2 [(s ws).1] b4 hl (by show max (s ws).1.depth 0 ≤ D; omega)
  have hk := kinds_short "choice" (by decide +kernel)
  obtain ⟨c1, c2, c3⟩ := join_rd hk.2 hk.1 a1 a3
  refine ⟨c1, ?_, c3, a4⟩
  have a2' : PyData.bulkAll (choF s (s ws).2.length (s ws).2 [(s ws).1]).1 + wsz (choF s (s ws).2.length (s ws).2 [(s ws).1]).2 ≤ ((s ws).1.bulk + 1 + 0) + wsz (s ws).2 := a2
  show (joinD "choice" (choF s (s ws).2.length (s ws).2 [(s ws).1]).1).bulk + wsz (choF s (s ws).2.length (s ws).2 [(s ws).1]).2 ≤ _
  omega
theorem ch_rd : ∀ L, Rd1 20 (3 * L + 4) (chL L)
  | 0 => choR_rd (D := 3) (seqR_rd (D := 2) (part_rd (D := 1) (by decide) (fun c e => by cases e)))
  | L + 1 => by
    have h := part_rd (ch := some (chL L)) (D := 3 * L + 4) (by omega) (fun c e => by cases e; exact ch_rd L)
    exact choR_rd (seqR_rd h)
/-- what a source writes, right or wrong -/
def found (src : Str) : PyData := (chL 8 (Txt.split src " ")).1
theorem found_fit {src : Str} (hw : ∀ w ∈ Txt.split src " ", WdS w) (hs : wsz (Txt.split src " ") ≤ 15000) : Fit 2000 (found src) := by
  obtain ⟨a1, a2, a3, _⟩ := ch_rd 8 (Txt.split src " ") hw
  have a3' : (found src).depth ≤ 28 := a3
  have a2' : (found src).bulk + wsz (chL 8 (Txt.split src " ")).2 ≤ wsz (Txt.split src " ") + 20 := a2
  exact ⟨a1.1, a1.2, by omega, by omega⟩
end Es
namespace PySem
/-! an own exception class over ValueError, called with names: its new, then its own init -/
section
open PySem.HandSPX
variable {prog : Program} {w : World} {A : Around} {E : Value → Shared → Prop} {R : Result → Shared → Prop} {hp : Heap} {gg : Array GenState} {dr : Drawn} {tt : Nat} {oo : OsState}
variable {nm qn : Str} {C N : Addr} {bs bm : List Value} {hd : Bool} {sn : List Str} {sub : List Value} {ab : Bool} {col : Option Bool} {dd : Option Addr} {k0 k1 k2 k3 k5 : Option Value} {us : List Value} {kw : List (Str × Value)}
theorem ek_check {M : Model} {Q : Unit → Shared → Prop} (same : ∀ Y : String, bm.contains (.type Y) = veTail.contains (.type Y)) (cl : hp.get? C = some (excClassObj nm qn C N bs bm hd sn sub ab col dd k0 k1 k2 k3 k5 "ValueError.__new__"))
    (z : Q () ⟨hp, gg, dr, tt, oo⟩) : wpAny M A (checkBuiltinCall "ValueError.__new__" ⟨.ref C :: us, kw⟩) Q E ⟨hp, gg, dr, tt, oo⟩ := by
  have FX := F.excBase_ValueError
  have inB : (Value.ref C :: bm).contains (.type "ValueError") = true := by rw [List.contains_cons, same, FX.hasB, Bool.or_true]
  have st := FX.noStar
  simp only [checkBuiltinCall, FX.newKind, FX.newSplit, FX.newRow]
  repeat (first | refine wpAny_loadPart_at cl ?_ | (refine wpAny_isSubtype_exc cl ?_; rw [inB]) | refine wpAny_staticBase_exc cl ?_ | refine wpAny_madeBy_exc cl ?_ | simp only [bne_self_eq_false, Bool.false_eq_true, if_false] | wp_step)
  exact z
theorem ek_new (same : ∀ Y : String, bm.contains (.type Y) = veTail.contains (.type Y)) (cl : hp.get? C = some (excClassObj nm qn C N bs bm hd sn sub ab col dd k0 k1 k2 k3 k5 "ValueError.__new__"))
    (z : R (.ok (.ret (.ref (hp.objs.size + 1)))) ⟨(hp.push (W.kdv_tup us)).push (excO C hp.objs.size), gg, dr, tt, oo⟩) (few : us.length ≤ sizeLine) :
    codeAny (model prog w) A (.builtin "ValueError.__new__" ⟨.ref C :: us, kw⟩) R ⟨hp, gg, dr, tt, oo⟩ := by
  have FX := F.excBase_ValueError
  have en := FX.ends
  have i1 : (Value.ref C :: bm).contains (.type "ValueError") = true := by rw [List.contains_cons, same, FX.hasB, Bool.or_true]
  have i2 : (Value.ref C :: bm).contains (.type "AttributeError") = false := by rw [List.contains_cons, same, FX.noAttr]; rfl
  have i3 : (Value.ref C :: bm).contains (.type "NameError") = false := by rw [List.contains_cons, same, FX.noName]; rfl
  refine codeAny_builtinAt FX.entry ?_
  unfold Builtin.«BaseException.__new__»
  refine wpAt_bind ?_
  show wpAt _ _ _ (stack >>= _) _ _ _
  refine wpAt_bind (wpAt_stack fun p below => wpAt_of_wpAny ?_)
  wp_walk
  refine wpAt_of_wpAny ?_
  rw [FX.owner]
  repeat (first | with_reducible refine wpAny_madeHere_exc FX.canon cl ?_ | with_reducible refine wpAny_loadPart_at cl ?_ | (with_reducible refine wpAny_isSubtype_exc cl ?_; first | rw [i1] | rw [i2] | rw [i3]) | wp_step)
  show R _ _
  rw [Heap.size_push]
  exact z
theorem ek_type {fI : Addr} {Q : Fin → Shared → Prop} (same : ∀ Y : String, bm.contains (.type Y) = veTail.contains (.type Y)) (cl : hp.get? C = some (excClassObj nm qn C N bs bm hd sn sub ab col dd k0 k1 k2 k3 k5 "ValueError.__new__"))
    (li : W.Looks (model prog w) hp (typeLookup (.ref C) "__init__") (some (.ref fI))) (bi : ∀ self, W.Looks (model prog w) hp (bindSpecial (.ref fI) self) (.ref fI, [self])) (few : us.length ≤ sizeLine)
    (z : codeAny (model prog w) A (.call (.ref fI) ⟨.ref (hp.objs.size + 1) :: us, kw⟩)
      (fun r s' => match r with | .ok (.ret v) => v = .none ∧ Q (.done (.ret (.ref (hp.objs.size + 1)))) s' | .ok _ => False | .error e => E e s') ⟨(hp.push (W.kdv_tup us)).push (excO C hp.objs.size), gg, dr, tt, oo⟩) :
    wpAny (model prog w) A (Builtin.«type.__call__» ⟨.ref C :: us, kw⟩) Q E ⟨hp, gg, dr, tt, oo⟩ := by
  have FX := F.excBase_ValueError
  repeat (first | with_reducible refine wpAny_loadPart_at cl ?_ | with_reducible refine wpAny_madeBy_exc cl ?_ | wp_step)
  refine codeAny_call_builtin_code (Code.quiet_builtin _ FX.quiet) (ek_check same cl ?_)
  refine ek_new same cl ?_ few
  show wpAny _ _ _ _ _ _
  have up : ∀ b o, hp.get? b = some o → ((hp.push (W.kdv_tup us)).push (excO C hp.objs.size)).get? b = some o := fun b o e => Heap.get?_push_of_some _ (Heap.get?_push_of_some _ e)
  have cl' := up _ _ cl
  have at' : ((hp.push (W.kdv_tup us)).push (excO C hp.objs.size)).get? (hp.objs.size + 1) = some (excO C hp.objs.size) := by heap_get
  have iC : (Value.ref C :: bm).contains (.ref C) = true := by simp
  have li' := li.keeps up
  have bi' := (bi (.ref (hp.objs.size + 1))).keeps up
  unfold isInstance
  repeat (first | with_reducible refine wpAny_loadPart_at at' ?_ | (with_reducible refine wpAny_isSubtype_exc cl' ?_; rw [iC]) | wp_step)
  show wpAny _ _ (typeLookup (.ref C) _) _ _ _
  refine li'.at ?_
  refine wpAny_holding (wpAny_bind (bi'.at ?_))
  refine wpAny_bind (wpAny_call (codeAny_mono z fun r s' y => ?_))
  rcases r with e | (v | _ | _ | _) <;> first | exact y | exact y.elim | skip
  obtain ⟨rfl, y⟩ := y
  first
    | exact wpAny_pure (wpAny_pure y)
    | (wp_walk; exact y)
theorem ek_call {fI : Addr} (same : ∀ Y : String, bm.contains (.type Y) = veTail.contains (.type Y)) (cl : hp.get? C = some (excClassObj nm qn C N bs bm hd sn sub ab col dd k0 k1 k2 k3 k5 "ValueError.__new__"))
    (li : W.Looks (model prog w) hp (typeLookup (.ref C) "__init__") (some (.ref fI))) (bi : ∀ self, W.Looks (model prog w) hp (bindSpecial (.ref fI) self) (.ref fI, [self])) (few : us.length ≤ sizeLine)
    (z : codeAny (model prog w) (A.under (.builtin "type.__call__" ⟨.ref C :: us, kw⟩)) (.call (.ref fI) ⟨.ref (hp.objs.size + 1) :: us, kw⟩) (W.InitBack (hp.objs.size + 1) R) ⟨(hp.push (W.kdv_tup us)).push (excO C hp.objs.size), gg, dr, tt, oo⟩) :
    codeAny (model prog w) A (.call (.ref C) ⟨us, kw⟩) R ⟨hp, gg, dr, tt, oo⟩ := by
  have a1 := tc_lookup
  have a2 := tc_bind (.ref C)
  have ty : (⟨hp, gg, dr, tt, oo⟩ : Shared).TypeIs (.ref C) "type" := ⟨_, cl, rfl⟩
  refine codeAny_of_tree ?_
  show wpAny _ _ (callAny (.ref C) _) _ _ _
  repeat (any_goals (first | assumption | with_reducible refine wpAny_loadPart_at cl ?_ | wp_step))
  refine ⟨rfl, ?_⟩
  refine codeAny_call_builtin_at (Code.quiet_builtin _ (by decide +kernel)) entry_typeCall (wpAny_check_type_call_sub cl (ek_type same cl li bi few ?_))
  refine codeAny_mono z fun r s' y => ?_
  rcases r with e | (v | _ | _ | _) <;> exact y
end
end PySem
namespace Es
open PySem PySem.Spec PyProof.Rows L2 Evl
section
variable {X : Cx}
/-- a class of the program's own over ValueError, called: its own init makes what sp says -/
theorem run_exo {pins : List (Addr × Obj)} {σ : L2.St} {H1 : Hp} {s1 : Shared} {Q : VK} {C fI : Addr} {k : Nat} {fd : FuncData} {ps : List Str} {sp : Sp} {us ws : List Value} {kw : List (Str × Value)} {vs : List V}
    (T : OexC X.K C) (iC : PySem.W.findIn X.K (.ref C) "__init__" = some (some (.ref fI))) (tI : PySem.W.typeIn X.K (.ref fI) = some (.type "function")) (F1 : FnOk X.prog X.w X.K X.mg X.base CX0 k fI fd ps sp) (hr : Room (k + 1) X.A)
    (I1 : Inv X pins σ H1 s1) (few : us.length ≤ sizeLine) (bd : ∀ (s : Shared) (a : Addr), X.K.In s.heap → BindsTo s fd ⟨.ref a :: us, kw⟩ (ps.zip (.ref a :: ws))) (r1 : Vals vs ws)
    (h : ∀ a, H1 a = none → sp (.ref a :: vs) (upd H1 a (exo a C none)) (fun v H2 => v = .non ∧ Q (.ref a) H2) E0) : wpAny (model X.prog X.w) X.A (call (.ref C) us kw) (EP X pins σ Q) X.xe s1 := by
  obtain ⟨nm, q, N, bs, bm, sn, sub, ab, col, dd, k0, k1, k2, k3, k5, hC, hbm⟩ := T.cls
  obtain ⟨hp, g, dr, tk, os⟩ := s1
  have hsz : hp.objs.size ≤ hp.objs.size + 1 := Nat.le_succ _
  have hq := h (hp.objs.size + 1) (I1.hok.fresh hsz)
  have hget : ((hp.push (PySem.W.kdv_tup us)).push (PySem.HandSPX.excO C hp.objs.size)).get? (hp.objs.size + 1) = some (PySem.HandSPX.excO C hp.objs.size) := by heap_get
  have I2 : Inv X pins σ (upd H1 (hp.objs.size + 1) (exo (hp.objs.size + 1) C none)) ⟨(hp.push (PySem.W.kdv_tup us)).push (PySem.HandSPX.excO C hp.objs.size), g, dr, tk, os⟩ :=
    I1.laid (t' := tk) (fun b o e => Heap.get?_push_of_some _ (Heap.get?_push_of_some _ e)) hsz (exo_ok hget)
  have r2 : Vals (V.ref (hp.objs.size + 1) :: vs) (Value.ref (hp.objs.size + 1) :: ws) := .cons rfl r1
  refine wpAny_call (PySem.ek_call (fun Y => PySem.HandSPX.refsVE_contains Y bm hbm) (I1.kIn _ _ hC) (PySem.W.looks_findIn I1.kIn iC) (fun self => PySem.W.bind_fn I1.kIn self tI) few
    (codeAny_mono (F1.run _ X.stack _ _ ⟨Value.ref (hp.objs.size + 1) :: us, kw⟩ (Value.ref (hp.objs.size + 1) :: ws) _ _ E0 (hr.make C us kw) (I2.env0.make C us kw) (bd _ _ I2.kIn) r2 hq) fun rs s' z => ?_))
  match rs, z with
  | .ok (.ret u), z =>
    obtain ⟨v, H2, J, rv, ev, q2⟩ := I2.after z
    subst ev
    exact ⟨rv, .ref (hp.objs.size + 1), H2, J, rfl, q2⟩
/-- C(e, ..) -/
def tXo (C : Addr) (sp : Sp) (ta : TA) : TE := fun σ H Q => ta σ H fun vs H1 => vs.length ≤ 1000 ∧ ∀ a, H1 a = none → sp (.ref a :: vs) (upd H1 a (exo a C none)) (fun v H2 => v = .non ∧ Q (.ref a) H2) E0
variable {x : Str} {p pos : Pos} {e : Expr} {es : List Expr} {kws : List Keyword} {ta : TA} {C fI : Addr} {k : Nat} {fd : FuncData} {ps ks : List Str} {sp : Sp}
theorem pe_exo (T : OexC X.K C) (iC : PySem.W.findIn X.K (.ref C) "__init__" = some (some (.ref fI))) (tI : PySem.W.typeIn X.K (.ref fI) = some (.type "function")) (F1 : FnOk X.prog X.w X.K X.mg X.base CX0 k fI fd ps sp) (hr : Room (k + 1) X.A)
    (bd : ∀ (s : Shared) (us : List Value), X.K.In s.heap → us.length = ps.length → BindsTo s fd ⟨us, []⟩ (ps.zip us)) (hg : Gl X x) (hm : X.mg x = some (.ref C)) (ha : PA X (e :: es) ta)
    (hdb : (x == ("__debug__" : Str)) = false := by decide) (he : starEach (e :: es) X.env = (false, eval e X.env) :: starEach es X.env := by rfl) (hpl : (backTo pos (starEach es X.env)).any (·.1) = false := by rfl) :
    PE X (.Call (.Name x p) (e :: es) [] pos) (tXo C sp ta) := by
  refine ⟨fun pins s σ H Q I h => ?_⟩
  refine wpAny_Call_Name_kw (ld_glob I hg hm ?_ hdb)
  refine PySem.W.callWith_K (h₀ := X.base) I.ok.mod.kin T.kC (thn (ha.run pos pins s σ H _ I h) ?_) he hpl
  rintro us s1 ⟨vs, H1, I1, r1, hz, q⟩
  refine ⟨I1.kIn, ?_⟩
  have hus : us.length ≤ sizeLine := by
    rw [← r1.length]
    exact sz_of (by omega)
  have fresh : H1 (s1.heap.objs.size + 1) = none := I1.hok.fresh (Nat.le_succ _)
  have hl := F1.len _ _ _ _ (q (s1.heap.objs.size + 1) fresh)
  refine run_exo T iC tI F1 hr I1 hus (fun s a ki => bd s (.ref a :: us) ki ?_) r1 q
  rw [List.length_cons, ← r1.length]
  exact hl
/-- C(k = e, ..) -/
theorem pe_exoK (T : OexC X.K C) (iC : PySem.W.findIn X.K (.ref C) "__init__" = some (some (.ref fI))) (tI : PySem.W.typeIn X.K (.ref fI) = some (.type "function")) (F1 : FnOk X.prog X.w X.K X.mg X.base CX0 k fI fd ps sp) (hr : Room (k + 1) X.A)
    (bd : ∀ (s : Shared) (a : Addr) (ws : List Value), X.K.In s.heap → ws.length + 1 = ps.length → BindsTo s fd ⟨[.ref a], ks.zip ws⟩ (ps.zip (.ref a :: ws))) (hg : Gl X x) (hm : X.mg x = some (.ref C)) (hkw : PK X kws ta)
    (hall : (backToKw pos (keywordEach kws X.env)).all (·.1.isSome) = true := by rfl) (hks : (backToKw pos (keywordEach kws X.env)).filterMap (·.1) = ks := by rfl)
    (hdb : (x == ("__debug__" : Str)) = false := by decide) (hpl : ((backTo pos (starEach [] X.env)).any (·.1) || (backToKw pos (keywordEach kws X.env)).any (·.1.isNone)) = false := by rfl) :
    PE X (.Call (.Name x p) [] kws pos) (tXo C sp ta) := by
  refine ⟨fun pins s σ H Q I h => ?_⟩
  refine wpAny_Call_Name_kw (ld_glob I hg hm ?_ hdb)
  refine PySem.W.callWith_KW0 (h₀ := X.base) I.ok.mod.kin T.kC hall (thn (hkw.run pos pins s σ H _ I h) ?_) hpl
  rintro ws s1 ⟨vs, H1, I1, r1, hz, q⟩
  refine ⟨I1.kIn, ?_⟩
  rw [hks]
  have fresh : H1 (s1.heap.objs.size + 1) = none := I1.hok.fresh (Nat.le_succ _)
  have hl := F1.len _ _ _ _ (q (s1.heap.objs.size + 1) fresh)
  refine run_exo (us := []) T iC tI F1 hr I1 (Nat.zero_le _) (fun s a ki => bd s a ws ki ?_) r1 q
  rw [← r1.length]
  exact hl
/-- C(), no init of its own -/
def tXo0 (C : Addr) : TE := fun _ H Q => ∀ a, H a = none → Q (.ref a) (upd H a (exo a C none))
theorem pe_exo0 (q : PySem.W.excIn X.K C PySem.HandSPX.veTail "ValueError.__new__" = true) (kC : PySem.W.keepIn X.K (.ref C) = true) (hg : Gl X x) (hm : X.mg x = some (.ref C)) (hdb : (x == ("__debug__" : Str)) = false := by decide) :
    PE X (.Call (.Name x p) [] [] pos) (tXo0 C) := by
  refine ⟨fun pins s σ H Q I h => ?_⟩
  refine wpAny_Call_Name_kw (ld_glob I hg hm ?_ hdb)
  refine PySem.W.callWith_K0 I.kIn kC ?_
  show wpAny _ _ (call (.ref C) []) _ _ _
  obtain ⟨bm, N, nm, qn, bs, hdct, sn, sub, ab, col, dd, k0, k1, k2, k3, k5, mN, hC, hN, hni, T⟩ := exc_obj I.kIn q
  refine wpAny_call_exc_subT F.excBase_ValueError T hC hN hni (fun h' a hm => ?_) (by show 0 ≤ sizeLine; exact Nat.zero_le _)
  have hn : H a = none := I.hok.gone hm.new
  obtain ⟨t, ht, _, _⟩ := hm.there
  exact ⟨.ref a, upd H a (exo a C none), I.laidN hm.keeps hm.new hn (exo_ok ht), rfl, h a hn⟩
/-- what isinstance and a field's reading ask of such a class -/
structure KitC (K : PySem.W.Frag) (C : Addr) : Prop where
  cl : (PySem.W.clsIn K C).isSome = true
  ga : PySem.W.findIn K (.ref C) "__getattribute__" = some (some (.builtin "BaseException.__getattribute__"))
  gg : PySem.W.findIn K (.ref C) "__getattr__" = some none
  ex : PySem.W.subIn K (.ref C) (.type "BaseException") = some true
  ca : PySem.W.findIn K (.ref C) "__class__" = some (some (.builtin "object.__class__"))
  sp : PySem.W.specialIn K (.builtin "object.__class__") "__get__" = some (some (.builtin "getset_descriptor.__get__"))
  tk : PySem.W.takesIn K (.builtin "object.__class__") = some true
  mr : PySem.W.mroIn K C (.type "object") = some true
  hd : PySem.W.hasDictIn K C = true
def kitCB (K : PySem.W.Frag) (C : Addr) : Bool :=
  (PySem.W.clsIn K C).isSome && (decide (PySem.W.findIn K (.ref C) "__getattribute__" = some (some (.builtin "BaseException.__getattribute__"))) && (decide (PySem.W.findIn K (.ref C) "__getattr__" = some none) &&
    (decide (PySem.W.subIn K (.ref C) (.type "BaseException") = some true) && (decide (PySem.W.findIn K (.ref C) "__class__" = some (some (.builtin "object.__class__"))) &&
    (decide (PySem.W.specialIn K (.builtin "object.__class__") "__get__" = some (some (.builtin "getset_descriptor.__get__"))) && (decide (PySem.W.takesIn K (.builtin "object.__class__") = some true) &&
    (decide (PySem.W.mroIn K C (.type "object") = some true) && PySem.W.hasDictIn K C)))))))
theorem kitC_of {K : PySem.W.Frag} {C : Addr} (h : kitCB K C = true) : KitC K C := by
  unfold kitCB at h
  simp only [Bool.and_eq_true, decide_eq_true_eq] at h
  obtain ⟨h1, h2, h3, h4, h5, h6, h7, h8, h9⟩ := h
  exact ⟨h1, h2, h3, h4, h5, h6, h7, h8, h9⟩
/-- the exception at a: of the class at C, its dict as it stands -/
def ExAt (H : Hp) (a C : Addr) (fs : Option (List (Str × V))) : Prop := match fs with
  | none => H a = some (exo a C none)
  | some fs => ∃ d, H a = some (exo a C (some d)) ∧ H d = some (exd d fs)
theorem ExAt.up {H H' : Hp} {a C : Addr} {fs : Option (List (Str × V))} (h : ExAt H a C fs) (e : Ex H H') : ExAt H' a C fs := by
  cases fs with
  | none => exact e _ _ h
  | some fs =>
    obtain ⟨d, h1, h2⟩ := h
    exact ⟨d, e _ _ h1, e _ _ h2⟩
theorem ExAt.inst {pins : List (Addr × Obj)} {σ : L2.St} {H : Hp} {s : Shared} {a C : Addr} {fs : Option (List (Str × V))} (I : Inv X pins σ H s) (h : ExAt H a C fs) : ∃ ox od, PySem.W.InstAt s.heap a ox C od := by
  cases fs with
  | none =>
    obtain ⟨t1, ho⟩ := exo_at I.hok h
    exact ⟨_, none, ho, rfl, rfl, trivial⟩
  | some fs =>
    obtain ⟨d, h1, h2⟩ := h
    obtain ⟨t1, ho⟩ := exo_at I.hok h1
    obtain ⟨mA, hns, rel⟩ := exd_at I.hok h2
    obtain ⟨od, hod, _⟩ := lookIn_ns hns
    exact ⟨_, some od, ho, rfl, rfl, hod⟩
/-- isinstance(err, c) -/
def rIsX (K : PySem.W.Frag) : List V → Hp → VK → Prop := fun xs H Q => ∃ (a C : Addr) (fs : Option (List (Str × V))) (c : V) (u : Value) (b : Bool), xs = [.ref a, c] ∧ ExAt H a C fs ∧ KitC K C ∧ ClsV c u ∧ PySem.W.kitOne K (.ref C) u = some b ∧ Q (.bl b) H
theorem cr_isX : CallR X (.builtin "isinstance") (rIsX X.K) := by
  intro pins s σ H xs us Q I r h
  obtain ⟨a, C, fs, c, u, b, rfl, hx, kc, hc, e, q⟩ := h
  obtain ⟨u1, u2, rfl, r1, r2⟩ := vals2 r
  have e2 := hc.eq r2
  subst e2
  cases (show u1 = Value.ref a from r1)
  obtain ⟨ox, od, J⟩ := hx.inst I
  exact PySem.W.kia_one (PySem.W.kitx_exc kc.cl kc.ga kc.gg kc.ex kc.ca kc.sp kc.tk kc.mr) I.kIn J e (fun z => nomatch z) fun tk => ⟨.bl b, H, I.tok tk, rfl, q⟩
/-- err.f -/
def tXa (K : PySem.W.Frag) (f : Str) (te : TE) : TE := fun σ H Q => te σ H fun y H1 => ∃ (a C : Addr) (fs : List (Str × V)) (v : V), y = .ref a ∧ ExAt H1 a C (some fs) ∧ KitC K C ∧ PySem.W.findIn K (.ref C) f = some none ∧ fs.lookup f = some v ∧ Q v H1
theorem pe_xa {n : Str} {o : Expr} {te : TE} (he : PE X o te) (hb : attributeBase o n X.env (eval o X.env) = eval o X.env := by rfl) : PE X (.Attribute o n pos) (tXa X.K n te) := by
  refine ⟨fun pins s σ H Q I h => ?_⟩
  refine attr_of hb (thn (he.run pins s σ H _ I h) ?_)
  rintro u s1 ⟨y, H1, I1, ry, a, C, fs, v, rfl, ⟨d, h1, h2⟩, kc, hno, l, q⟩
  cases (show u = Value.ref a from ry)
  obtain ⟨t1, ho⟩ := exo_at I1.hok h1
  obtain ⟨mA, hns, rel⟩ := exd_at I1.hok h2
  obtain ⟨od, hod, hl⟩ := lookIn_ns hns
  obtain ⟨u, hu, ru⟩ := RelO.some_of (v := v) (o := mA n) (by rw [← l]; exact rel n)
  have J : PySem.W.InstAt s1.heap a _ C (some od) := ⟨ho, rfl, rfl, hod⟩
  exact HandSPX.exc_get I1.kIn J kc.ga kc.gg kc.ex (PySem.W.findObj_own kc.hd hno rfl (by rw [hl, hu])) (handed_of ru) ⟨v, H1, I1.tok _, ru, q⟩
end
end Es
namespace Es
open PySem PySem.Spec PyProof.Rows L2 Evl
/-- an expression as the document has it -/
structure Good (t : Tr) : Prop where
  f : t.fine
  d : t.dep ≤ 7
  n : t.nl ≤ 16
theorem Good.wid {t : Tr} (h : Good t) : t.wid ≤ 1392 := wid_small h.f h.d h.n
theorem Good.len {t : Tr} (h : Good t) : t.sh.length ≤ 1392 := Nat.le_trans (sh_len t h.f) h.wid
mutual
theorem toD_inj : ∀ t u : Tr, t.toD = u.toD → t = u
  | .leaf k n, .leaf k' n', h => by
    have h' : PyData.tuple [.str k, .str n] = .tuple [.str k', .str n'] := h
    injection h' with h1
    injection h1 with h2 h3
    injection h2 with h2
    injection h3 with h3 h4
    injection h3 with h3
    rw [h2, h3]
  | .leaf k n, .node k' [], h => by
    have h' : PyData.tuple [.str k, .str n] = .tuple [.str k'] := h
    injection h' with h1
    injection h1 with h2 h3
    cases h3
  | .leaf k n, .node k' (p :: ps), h => by
    have h' : PyData.tuple [.str k, .str n] = .tuple (.str k' :: p.toD :: Tr.toDs ps) := h
    injection h' with h1
    injection h1 with h2 h3
    injection h3 with h3 h4
    cases p <;> cases h3
  | .node k' [], .leaf k n, h => by
    have h' : PyData.tuple [.str k'] = .tuple [.str k, .str n] := h
    injection h' with h1
    injection h1 with h2 h3
    cases h3
  | .node k' (p :: ps), .leaf k n, h => by
    have h' : PyData.tuple (.str k' :: p.toD :: Tr.toDs ps) = .tuple [.str k, .str n] := h
    injection h' with h1
    injection h1 with h2 h3
    injection h3 with h3 h4
    cases p <;> cases h3
  | .node k ps, .node k' ps', h => by
    have h' : PyData.tuple (.str k :: Tr.toDs ps) = .tuple (.str k' :: Tr.toDs ps') := h
    injection h' with h1
    injection h1 with h2 h3
    injection h2 with h2
    rw [h2, toDs_inj ps ps' h3]
theorem toDs_inj : ∀ ts us : List Tr, Tr.toDs ts = Tr.toDs us → ts = us
  | [], [], _ => rfl
  | [], u :: us, h => by cases h
  | t :: ts, [], h => by cases h
  | t :: ts, u :: us, h => by
    have h' : t.toD :: Tr.toDs ts = u.toD :: Tr.toDs us := h
    injection h' with h1 h2
    rw [toD_inj t u h1, toDs_inj ts us h2]
end
/-- a source that is not too long -/
structure SrcOk (src : Str) : Prop where
  len : src.length ≤ 15000
  ok : OkW (Txt.split src " ")
  sz : wsz (Txt.split src " ") ≤ 15000
/-- what a source writes -/
def Ans (src : Str) (t : Tr) : Prop := Good t ∧ found src = t.toD ∧ t.sh = src
def spExO : Sp := fun vs H Q _ => ∃ src : Str, vs = [.str src] ∧ SrcOk src ∧ (∀ t, Ans src t → ∀ v H', Ex H H' → Pd H' v t.toD → Q v H') ∧ ((¬ ∃ t, Ans src t) → RetV .non H Q)
/-- an error of that class, its one field set -/
def Raised (C : Addr) (f : Str) (v : V) (H : Hp) (E : XK) : Prop := ∀ dd H', Ex H H' → H' dd = some (.xd [(f, v)]) → E (.ref C) (some dd) H'
def spReadX (C : Addr) : Sp := fun vs H Q E => (∃ src : Str, vs = [.str src] ∧ SrcOk src ∧ (∀ t, Ans src t → ∀ v H', Ex H H' → Pd H' v t.toD → Q v H') ∧ ((¬ ∃ t, Ans src t) → Raised C "row" (.int 0) H E)) ∨
  ∃ (v : V) (p : Option Sx) (d : PyData), vs = [v] ∧ Dd p H v d ∧ isStr d = false ∧ Raised C "row" (.int 0) H E
end Es
namespace K52
open PySem PySem.Spec PyProof.Rows L2 Evl Es
theorem scExOf : FnScope ["source", "found"] ["source"] (defScope sExOf) := ⟨rfl, rfl, rfl, by decide +kernel, rfl, by decide +kernel, by decide +kernel⟩
theorem scRead : FnScope ["source", "found"] ["source"] (defScope sRead) := ⟨rfl, rfl, rfl, by decide +kernel, rfl, by decide +kernel, by decide +kernel⟩
theorem scBadI : FnScope ["self", "row"] ["self", "row"] (defScope sBadI) := ⟨rfl, rfl, rfl, by decide +kernel, rfl, by decide +kernel, by decide +kernel⟩
section
variable {P : Program} {w : World} {K : PySem.W.Frag} {mg : Str → Option Value} {base : Heap} {C fI fC fS fP fT fJ fL aB aC : Addr} {dI dC dS dP dT dJ dL : FuncData}
theorem ok_exOf (T : WoC K mg w C fI fC fS fP dI dC dS dP fT fJ fL aB aC dT dJ dL) {f fE fS' : Addr} {fd dE dS' : FuncData} {k : Nat} {t8 : Tok} (F : Fun K "expression_of" "expression_of" sExOf f fd)
    (GE : FnOk P w K mg base CX0 (k + 29) fE dE ["value"] spIsE) (bE : Binds K dE ["value"] []) (gE : mg "is_expression" = some (.ref fE)) (kE : PySem.W.keepIn K (.ref fE) = true)
    (GS : FnOk P w K mg base CX0 (k + 29) fS' dS' ["expression"] (spShow 8)) (bS : Binds K dS' ["expression"] []) (gS : mg "show_expression" = some (.ref fS')) (kS : PySem.W.keepIn K (.ref fS') = true)
    (m8 : mg "MOST_LEVELS" = some (.int 8 t8)) : FnOk P w K mg base CX0 (k + 30) f fd ["source"] spExO := by
  have bC : Binds K dC ["self", "levels"] [] := T.Ch.binds fun _ _ _ _ _ _ us hl => match us, hl with | [_, _], _ => rfl
  have bI : Binds K dI ["self", "words"] [] := T.In.binds fun _ _ _ _ _ _ us hl => match us, hl with | [_, _], _ => rfl
  have GI : FnOk P w K mg base CX0 (k + 28) fI dI ["self", "words"] (spWI C) := ok_wI T
  have GC : FnOk P w K mg base CX0 (k + 29) fC dC ["self", "levels"] (spWC C 8) := (ok_words T 8).mono (by omega)
  refine F.ok scExOf (fun vs H Q E h => ?_) (fun cdv A outer s H vs Q E hr h => ?_)
  · obtain ⟨t, rfl, _⟩ := h
    rfl
  · obtain ⟨src, rfl, hs, qy, qn⟩ := h
    refine ⟨_, pss_cons (ps_set (i := 1) scExOf.nd rfl (.inl rfl) (pe_meth (pe_make T.mks GI hr (by rfl) T.g bI .nil pass0 (pa_cons (pe_split (pv 0) pe_str) pa_nil)) T.cl T.mC GC hr bC .nil pass0 (pa_cons (pe_glob (v := .int 8) (by rfl) m8 ⟨_, rfl⟩) pa_nil)))
      (pss_one (ps_ret (pe_ifExp (PW.pt (pw_and (pt_val (pe_call GE hr (by rfl) gE kE bE .nil pass0 (pa_cons (pv 1) pa_nil))) (pw_and1 (pt_cmpR op_eq (pe_call GS hr (by rfl) gS kS bS .nil pass0 (pa_cons (pv 1) pa_nil)) (pv 0) (nomark _))))) (pv 1) pe_non))), ?_⟩
    refine ⟨.str src, rfl, ⟨src, rfl⟩, src, " ", rfl, rfl, rfl, sz_of (by have := hs.len; omega), fun wl nwl => ?_⟩
    have e1 := Ex.new (o := .lst ((Txt.split src " ").map V.str)) nwl
    generalize hH1 : upd H wl (.lst ((Txt.split src " ").map V.str)) = H1 at e1
    have hwl : H1 wl = some (.lst (wvs (Txt.split src " "))) := by rw [← hH1]; exact upd_same
    intro x dx nx ndx hne
    refine ⟨x, dx, wl, rfl, upd_same, fun H2 x2 hx2 => ⟨rfl, x, dx, _, rfl, hx2, rfl, ?_⟩⟩
    have hwx : wl ≠ x := fun z => by rw [← z, hwl] at nx; cases nx
    have hwdx : wl ≠ dx := fun z => by rw [← z, hwl] at ndx; cases ndx
    have hW2 : WAt C H2 x dx wl (Txt.split src " ") 0 := ⟨hx2, x2 _ _ hwx (by rw [upd_ne hwx, upd_ne hwdx]; exact hwl)⟩
    have e12 : Ex H1 H2 := fun a o h => x2 _ _ (fun z => by rw [z, nx] at h; cases h) (by
      rw [upd_ne (fun z => by rw [z, nx] at h; cases h), upd_ne (fun z => by rw [z, ndx] at h; cases h)]
      exact h)
    refine ⟨x, dx, wl, _, 0, rfl, hW2, hs.ok, trivial, fun v H3 j x3 hx3 _ hv => ?_⟩
    rw [List.drop_zero] at hv
    have hv' : Pd H3 v (found src) := hv
    have e13 : Ex H1 H3 := fun a o h => x3 _ _ (fun z => by rw [z, nx] at h; cases h) (e12 _ _ h)
    have e3 := e1.trans e13
    have hfit : Fit 2000 (found src) := found_fit hs.ok.2 hs.sz
    have hisE : ∀ {H4 : Hp} {σ : L2.St}, Ex H3 H4 → σ[1]? = some (some v) → EvT (tB (tCall spIsE [] E0 (tCons (tVar 1) tNil))) σ H4 (okE (found src)) := fun e4 hσ => et_B (ev_call (z := .bl (okE (found src))) (ea_cons (ev_var hσ) ea_nil) (fun H5 e5 Q q E => ⟨none, v, found src, rfl, ((hv'.up e4).up e5).dd, hfit, fun H6 e6 => q H6 e6⟩))
    cases hok : okE (found src) with
    | false =>
      have hno : ¬ ∃ t, Ans src t := fun ⟨t, hg, hf, _⟩ => by
        rw [hf, okE_tr hg.f hg.d hg.n] at hok
        cases hok
      refine s_retI (et_is (et_and (b := false) (hisE (Ex.refl _) rfl) (fun z => by rw [hok] at z; cases z)) (Bool.and_false _)) (fun z => nomatch z) (fun _ H4 e4 => qn hno H4 (e3.trans e4))
    | true =>
      obtain ⟨t, ⟨tf, td, tn⟩, ht⟩ := okE_inv hok
      have hg : Good t := ⟨tf, td, tn⟩
      rw [ht] at hv'
      refine s_retI (et_is (et_and (hisE (Ex.refl _) rfl) (fun _ => et_test (ev_op (ev_call (z := .str t.sh) (ea_cons (ev_var rfl) ea_nil) (fun H4 e4 Q q E => ⟨none, v, t, rfl, by have := hg.d; omega, (hv'.up e4).dd, hg.f, by have := hg.wid; omega, fun H5 e5 => q H5 e5⟩)) (ev_var rfl) (rv_eq rfl)))) (b := decide (t.sh = src)) (by rw [hok, Es.eq_str, Bool.true_and])) (fun hb H4 e4 => ?_) (fun hb H4 e4 => ?_)
      · exact ⟨v, rfl, qy t ⟨hg, ht, of_decide_eq_true hb⟩ v H4 (e3.trans e4) (hv'.up e4)⟩
      · refine qn (fun ⟨u, _, hu, hsu⟩ => ?_) H4 (e3.trans e4)
        rw [ht] at hu
        rw [← toD_inj t u hu] at hsu
        exact of_decide_eq_false hb hsu
def spInit (C : Addr) (g : Str) : Sp := fun vs H Q _ => ∃ (a : Addr) (v : V), vs = [.ref a, v] ∧ H a = some (exo a C none) ∧ ∀ dx, H dx = none → dx ≠ a → Q .non (upd (upd H dx (exd dx [(g, v)])) a (exo a C (some dx)))
/-- the class BadSource -/
structure BadC (K : PySem.W.Frag) (mg : Str → Option Value) (CB fB : Addr) (dB : FuncData) : Prop where
  cg : mg "BadSource" = some (.ref CB)
  T : OexC K CB
  no : PySem.W.findIn K (.ref CB) "row" = some none
  iC : PySem.W.findIn K (.ref CB) "__init__" = some (some (.ref fB))
  tI : PySem.W.typeIn K (.ref fB) = some (.type "function")
  fn : Fun K "__init__" "BadSource.__init__" sBadI fB dB
  xf : XfC K CB
  ex : PySem.W.exmOne K (.ref CB) (.ref CB) = some true
theorem ok_badI {CB fB : Addr} {dB : FuncData} {k : Nat} (T : BadC K mg CB fB dB) : FnOk P w K mg base CX0 (k + 1) fB dB ["self", "row"] (spInit CB "row") := by
  refine T.fn.ok scBadI (fun vs H Q E h => ?_) (fun cdv A outer s H vs Q E hr h => ?_)
  · obtain ⟨a, v, rfl, _⟩ := h
    rfl
  · obtain ⟨a, v, rfl, ha, q⟩ := h
    refine ⟨_, pss_one (ps_ost (pv 0) (pv 1)), ?_⟩
    exact ⟨v, rfl, .ref a, rfl, a, CB, rfl, T.T, T.no, .inl ⟨ha, fun dx n ne => q dx n ne⟩⟩
theorem ok_readX {f fX CB fB : Addr} {fd dX dB : FuncData} {k : Nat} (F : Fun K "read_expression" "read_expression" sRead f fd) (G : FnOk P w K mg base CX0 (k + 2) fX dX ["source"] spExO) (b : Binds K dX ["source"] []) (g : mg "expression_of" = some (.ref fX)) (kp : PySem.W.keepIn K (.ref fX) = true)
    (TB : BadC K mg CB fB dB) (mi : mg "isinstance" = none) (ms : mg "str" = none) : FnOk P w K mg base (L2.CX P w) (k + 3) f fd ["source"] (spReadX CB) := by
  have GB : FnOk P w K mg base CX0 (k + 1) fB dB ["self", "row"] (spInit CB "row") := ok_badI TB
  have bB : Binds K dB ["self", "row"] [] := TB.fn.binds fun _ _ _ _ _ _ us hl => match us, hl with | [_, _], _ => rfl
  refine F.okX scRead (fun vs H Q E h => ?_) (fun cdv A outer s H vs Q E hr h => ?_)
  · rcases h with ⟨src, rfl, _⟩ | ⟨v, p, d, rfl, _⟩ <;> rfl
  · refine ⟨_, pss_cons (ps_set (i := 1) scRead.nd rfl (.inl rfl) (pe_ifExp (pt_val (pe_callB call_isi (by rfl) mi boot_isinstance (pa_cons (pv 0) (pa_cons (pe_bltn (v := .ty "str") (by rfl) ms PyProof.Rows.boot_str rfl) pa_nil)))) (pe_call G hr (by rfl) g kp b .nil pass0 (pa_cons (pv 0) pa_nil)) pe_non))
      (pss_cons (ps_if (pt_cmp (pc_isN (pv 1))) (pss_one (ps_raise rfl (takes_of rfl rfl rfl rfl) (pmk_oex TB.T TB.iC TB.tI GB hr bB .nil pass0 (by rfl) TB.cg (pa_cons pe_int pa_nil)))) pss_nil)
      (pss_one (ps_ret (pv 1)))), ?_⟩
    -- the raise
    have hraise : ∀ (H1 : Hp) (v : V), Ex H H1 → Raised CB "row" (.int 0) H E → tMkO CB (spInit CB "row") [] (tCons (tC (.int 0)) tNil) [some v, some .non] H1 fun cls d H' => E cls d H' := by
      intro H1 v e1 hR
      refine ⟨by show 1 ≤ 1000; decide, fun a na => ⟨a, .int 0, rfl, upd_same, fun dx ndx hne => ⟨rfl, dx, [("row", .int 0)], upd_same, ?_, ?_, ?_⟩⟩⟩
      · rw [upd_ne hne, upd_same]
      · rw [upd_ne hne] at ndx
        exact ndx
      · rw [upd_ne hne] at ndx
        refine hR dx _ (fun x o hx => ?_) upd_same
        have hx1 := e1 x o hx
        have xa : x ≠ a := fun z => by rw [z, na] at hx1; cases hx1
        have xd : x ≠ dx := fun z => by rw [z, ndx] at hx1; cases hx1
        rw [upd_ne xd, del_ne xa, upd_ne xa, upd_ne xd, upd_ne xa]
        exact hx1
    rcases h with ⟨src, rfl, hs, qy, qn⟩ | ⟨v, p, d, rfl, hd, hstr, hR⟩
    · refine (show EvT (tB (tCB (rIsi K) (tCons (tVar 0) (tCons (tC (.ty "str")) tNil)))) (start ["source", "found"] [.str src]) H true from et_B (b := true) (ev_cb (ea_cons (ev_var rfl) (ea_cons ev_c ea_nil)) (Dd.isiS (p := none) (Dd.str src)))) H (Ex.refl _) _ fun H1 e1 => ?_
      rw [if_pos rfl]
      refine ⟨_, rfl, src, rfl, hs, fun t ht v H2 e2 hv => ?_, fun hno H2 e2 => ?_⟩
      · have hnn : decide (v = V.non) = false := by
          refine decide_eq_false fun z => ?_
          subst z
          cases t <;> cases hv
        refine ⟨v, rfl, _, rfl, ?_⟩
        rw [hnn]
        exact ⟨v, rfl, qy t ht v H2 (e1.trans e2) hv⟩
      · exact ⟨.non, rfl, _, rfl, hraise H2 _ (e1.trans e2) (qn hno)⟩
    · refine (show EvT (tB (tCB (rIsi K) (tCons (tVar 0) (tCons (tC (.ty "str")) tNil)))) (start ["source", "found"] [v]) H false from et_B (b := false) (ev_is (ev_cb (ea_cons (ev_var rfl) (ea_cons ev_c ea_nil)) hd.isiS) (by rw [hstr]))) H (Ex.refl _) _ fun H1 e1 => ?_
      rw [if_neg (by decide)]
      exact ⟨.non, rfl, _, rfl, hraise H1 _ e1 hR⟩
end
end K52
namespace K52
open PySem PySem.Spec PyProof.Rows L2 Evl Es
theorem scPot : FnScope ["_law_script", "_law_k", "_law_cell", "_law_digits"] ["_law_script", "_law_k"] (defScope sPot) := ⟨rfl, rfl, rfl, by decide +kernel, rfl, by decide +kernel, by decide +kernel⟩
theorem scTake : FnScope ["_law_pot_here", "_law_many", "_law_digit", "_law_prime", "_law_mixed"] ["_law_pot_here", "_law_many"] (defScope sTake) := ⟨rfl, rfl, rfl, by decide +kernel, rfl, by decide +kernel, by decide +kernel⟩
theorem scOf : FnScope ["_law_pot_here", "_law_some"] ["_law_pot_here", "_law_some"] (defScope sOf) := ⟨rfl, rfl, rfl, by decide +kernel, rfl, by decide +kernel, by decide +kernel⟩
section
variable {P : Program} {w : World} {K : PySem.W.Frag} {mg : Str → Option Value} {base : Heap}
def primes : List V := [.int 2305843009213693951, .int 2305843009213693921, .int 2305843009213693907, .int 2305843009213693723]
theorem prime_at (j : Int) (h0 : 0 ≤ j) (h5 : j < 4) : ∃ r : Int, atI primes j = some (.int r) ∧ 0 < r ∧ r ≤ 2305843009213693951 := by
  have : j = 0 ∨ j = 1 ∨ j = 2 ∨ j = 3 := by omega
  rcases this with h | h | h | h <;> subst h <;> exact ⟨_, rfl, by decide, by decide⟩
theorem ok_take {f : Addr} {fd : FuncData} {k : Nat} (F : Fun K "_law_take" "_law_take" sTake f fd) : FnOk P w K mg base CX0 (k + 1) f fd ["_law_pot_here", "_law_many"] spTake := by
  refine F.ok scTake (fun vs H Q E h => ?_) (fun cdv A outer s H vs Q E hr h => ?_)
  · obtain ⟨p, n, m, rfl, _⟩ := h
    rfl
  · obtain ⟨p, n, m, rfl, hn1, hn2, hm, hP, q⟩ := h
    obtain ⟨g, s0, c, hp, hg, hs0, hs1, hc0, hc1⟩ := hP
    refine ⟨_, pss_cons (ps_if (pt_cmpR op_gt (pe_ix ix_list (pv 0) pe_int (fun _ _ => rfl)) pe_int (nomark _))
        (pss_cons (ps_set (i := 2) scTake.nd rfl (.inl rfl) (pe_op op_mod (pe_ix ix_list (pv 0) pe_int (fun _ _ => rfl)) (pv 1)))
        (pss_cons (ps_asg (pe_op op_fdiv (pe_ix ix_list (pv 0) pe_int (fun _ _ => rfl)) (pv 1)) (pg_sub (pv 0) pe_int set_list))
        (pss_one (ps_ret (pv 2))))) pss_nil)
      (pss_cons (ps_asg (pe_op op_add (pe_ix ix_list (pv 0) pe_int (fun _ _ => rfl)) pe_int) (pg_sub (pv 0) pe_int set_list))
      (pss_cons (ps_set (i := 3) scTake.nd rfl (.inl rfl) (pe_ix ix_list (pe_lst (pa_cons pe_int (pa_cons pe_int (pa_cons pe_int (pa_cons pe_int pa_nil))))) (pe_op op_mod (pe_ix ix_list (pv 0) pe_int (fun _ _ => rfl)) pe_int) (fun _ _ => rfl)))
      (pss_cons (ps_set (i := 4) scTake.nd rfl (.inl rfl) (pe_op op_mod (pe_op op_pow (pe_op op_add (pe_op op_add (pe_ix ix_list (pv 0) pe_int (fun _ _ => rfl))
        (pe_op op_mul (pe_op op_mul pe_int (pe_ix ix_list (pv 0) pe_int (fun _ _ => rfl))) (pe_ix ix_list (pv 0) pe_int (fun _ _ => rfl)))) pe_int) pe_int) (pv 3)))
      (pss_one (ps_ret (pe_op op_mod (pe_op op_fdiv (pe_op op_mod (pe_op op_mul (pv 4) (pe_op op_add (pe_op op_mod (pv 4) pe_int) (pe_ix ix_list (pv 0) pe_int (fun _ _ => rfl)))) (pv 3)) pe_int) (pv 1))))))), ?_⟩
    have ix : ∀ {H1 : Hp} {σ : L2.St} {xs : List V} {j : Int} {v : V}, H1 p = some (.lst xs) → σ[0]? = some (some (.ref p)) → atI xs j = some v → Ev (tOp (rIxL K) (tVar 0) (tC (.int j))) σ H1 v :=
      fun h h0 ha => ev_op (ev_var h0) ev_c (rv_ixL (sq_of h) ha)
    refine q_when (et_test (ev_op (ix hp rfl rfl) ev_c rv_I0)) (fun hb H1 e1 => ?_) (fun hb H1 e1 => ?_)
    · refine q_asg (ev_op (ix (e1 _ _ hp) rfl rfl) (ev_var rfl) (rv_I (by show (0 : Int) < n; omega))) fun H2 e2 => ?_
      refine q_setL (j := 0) (e2 _ _ (e1 _ _ hp)) (ev_op (ix (e2 _ _ (e1 _ _ hp)) rfl rfl) (ev_var rfl) (rv_I ⟨by omega, by omega⟩)) (ev_var rfl) ev_c (by show 0 < 3; decide) fun H3 e3 => ?_
      refine s_ret (ev_var rfl) fun H4 e4 => ?_
      refine q (g % n) H4 (Int.emod_nonneg _ (by omega)) (Int.emod_lt_of_pos _ (by omega)) (((Xp.ex ((e1.trans e2).trans e3)).trans Xp.upd).trans (Xp.ex e4)) ?_
      exact ⟨g / n, s0, c, e4 _ _ upd_same, Int.ediv_nonneg hg (by omega), hs0, hs1, hc0, by omega⟩
    · refine q_setL (j := 2) (e1 _ _ hp) (ev_op (ix (e1 _ _ hp) rfl rfl) ev_c rv_I0) (ev_var rfl) ev_c (by show 2 < 3; decide) fun H2 e2 => ?_
      generalize hH3 : upd H2 p _ = H3
      have hp3 : H3 p = some (.lst [.int g, .int s0, .int (c + 1)]) := by rw [← hH3]; exact upd_same
      have x3 : Xp p H H3 := (Xp.ex (e1.trans e2)).trans (by rw [← hH3]; exact Xp.upd)
      obtain ⟨r, hr1, hr2, hr3⟩ := prime_at ((c + 1) % 4) (Int.emod_nonneg _ (by omega)) (Int.emod_lt_of_pos _ (by omega))
      refine q_asg (v := .int r) (ev_opL1 (el_lst (ea_cons ev_c (ea_cons ev_c (ea_cons ev_c (ea_cons ev_c ea_nil)))) (by decide)) (fun H4 e4 => ev_op (ix (e4 _ _ hp3) rfl rfl) ev_c (rv_I (by show (0 : Int) < 4; decide)))
        (fun l H4 hl e4 => rv_ixL (sq_of hl) hr1)) fun H4 e4 => ?_
      have hp4 := e4 _ _ hp3
      have b1 : (c + 1) * (c + 1) ≤ 200000 * 200000 := Int.mul_le_mul (by omega) (by omega) (by omega) (by omega)
      have b0 : 0 ≤ (c + 1) * (c + 1) := Int.mul_nonneg (by omega) (by omega)
      have b2 : 15485863 * (c + 1) * (c + 1) = 15485863 * ((c + 1) * (c + 1)) := Int.mul_assoc _ _ _
      generalize (c + 1) * (c + 1) = cc at b1 b0 b2
      refine q_asg (ev_op (ev_op (ev_op (ev_op (ix hp4 rfl rfl) (ev_op (ev_op ev_c (ix hp4 rfl rfl) (rv_I (.inl ⟨by decide, by decide⟩))) (ix hp4 rfl rfl) (rv_I (.inl ⟨by show -(2 ^ 64) < 15485863 * (c + 1); omega, by show 15485863 * (c + 1) < 2 ^ 64; omega⟩))) rv_I0) ev_c rv_I0) ev_c
        (rv_I ⟨by decide, by decide, by rw [b2]; omega⟩)) (ev_var rfl) (rv_I (by show (0 : Int) < r; exact hr2))) fun H5 e5 => ?_
      generalize hM : ((s0 + 15485863 * (c + 1) * (c + 1) + 7) ^ (3 : Int).toNat % r : Int) = M
      have M0 : 0 ≤ M := by rw [← hM]; exact Int.emod_nonneg _ (by omega)
      have M1 : M < r := by rw [← hM]; exact Int.emod_lt_of_pos _ hr2
      refine s_ret (ev_op (ev_op (ev_op (ev_op (ev_var rfl) (ev_op (ev_op (ev_var rfl) ev_c (rv_I (by show (0 : Int) < 1000003; decide))) (ix (e5 _ _ hp4) rfl rfl) rv_I0)
        (rv_I (.inl ⟨by show -(2 ^ 64) < M; omega, by show M < 2 ^ 64; omega⟩))) (ev_var rfl) (rv_I (by show (0 : Int) < r; exact hr2))) ev_c (rv_I ⟨by decide, by decide⟩)) (ev_var rfl) (rv_I (by show (0 : Int) < n; omega))) fun H6 e6 => ?_
      exact q _ H6 (Int.emod_nonneg _ (by omega)) (Int.emod_lt_of_pos _ (by omega)) (x3.trans (Xp.ex ((e4.trans e5).trans e6))) ⟨g, s0, c + 1, e6 _ _ (e5 _ _ hp4), hg, hs0, hs1, by omega, by omega⟩
def absI (i : Int) : Int := if i < 0 then -i else i
def rAbs : List V → Hp → VK → Prop := fun xs H Q => ∃ i, xs = [.int i] ∧ Q (.int (absI i)) H
theorem rc_abs {H : Hp} {i : Int} : RC rAbs [.int i] H (.int (absI i)) := fun H1 _ _ q => ⟨i, rfl, q H1 (Ex.refl _)⟩
theorem rc_lenL {H : Hp} {a : Addr} {xs : List V} (h : SqL K H a xs) : RC (rLenS K) [.ref a] H (.int (xs.length : Int)) := fun H1 e _ q => ⟨a, xs, rfl, .inl (ex_l e h), q H1 (Ex.refl _)⟩
def rInt1 : List V → Hp → VK → Prop := fun xs H Q => (∃ i, xs = [.int i] ∧ Q (.int i) H) ∨ ∃ k, xs = [.bl k] ∧ Q (.int (if k then 1 else 0)) H
theorem rc_intB {H : Hp} {b : Bool} : RC rInt1 [.bl b] H (.int (if b = true then 1 else 0)) := fun H1 _ _ q => .inr ⟨b, rfl, q H1 (Ex.refl _)⟩
theorem big1 : (10 ^ (60 : Int).toNat : Int).natAbs < 2 ^ 200 := by decide +kernel
theorem big2 : (10 ^ (60 : Int).toNat * 10 ^ (60 : Int).toNat : Int).natAbs < 2 ^ 400 := by decide +kernel
theorem big3 : (0 : Int) < 10 ^ (60 : Int).toNat * 10 ^ (60 : Int).toNat * 10 ^ (60 : Int).toNat := by decide +kernel
/-- the pot of a cell -/
def spPot (K : PySem.W.Frag) : Sp := fun vs H Q _ => ∃ (a : Addr) (k : Nat) (ns : List Int), vs = [.ref a, .int (k : Int)] ∧ k ≤ 10 ∧ SqL K H a (ns.map V.int) ∧
  ∀ p H', H p = none → Ex H H' → Pot H' p 0 → Q (.ref p) H'
theorem ok_pot {f : Addr} {fd : FuncData} {k : Nat} (F : Fun K "_law_pot" "_law_pot" sPot f fd) (ml : mg "len" = none) (ma : mg "abs" = none) (mI : mg "int" = none) : FnOk P w K mg base CX0 (k + 1) f fd ["_law_script", "_law_k"] (spPot K) := by
  refine F.ok scPot (fun vs H Q E h => ?_) (fun cdv A outer s H vs Q E hr h => ?_)
  · obtain ⟨a, n, ns, rfl, _⟩ := h
    rfl
  · obtain ⟨a, n, ns, rfl, hn, hS, q⟩ := h
    refine ⟨_, pss_cons (ps_set (i := 2) scPot.nd rfl (.inl rfl) (pe_ifExp (pt_cmpR op_lt (pv 1) (pe_callB call_len_seq (by rfl) ml PySem.boot_len (pa_cons (pv 0) pa_nil)) (nomark _))
        (pe_ix ix_list (pv 0) (pv 1) (fun _ _ => rfl)) (pe_op op_add (pe_op op_mul pe_int (pv 1)) pe_int)))
      (pss_cons (ps_set (i := 3) scPot.nd rfl (.inl rfl) (pe_op op_mul (pe_op op_mod (pe_callB call_abs (by rfl) ma boot_abs (pa_cons (pv 2) pa_nil)) (pe_op op_mulW (pe_op op_mulW (pe_op op_pow pe_int pe_int) (pe_op op_pow pe_int pe_int)) (pe_op op_pow pe_int pe_int)))
        (pe_callTy call_int1 (by rfl) mI (by decide +kernel) (pa_cons (pe_cmpR op_ge (pe_callB call_abs (by rfl) ma boot_abs (pa_cons (pv 2) pa_nil)) (pe_op op_pow pe_int pe_int) (nomark _)) pa_nil))))
      (pss_one (ps_ret (pe_lst (pa_cons (pv 3) (pa_cons (pe_op op_mod (pe_op op_add (pe_op op_add (pe_op op_mul (pe_op op_mod (pv 2) pe_int) pe_int) (pe_op op_mul pe_int (pv 1))) pe_int) pe_int) (pa_cons pe_int pa_nil))))))), ?_⟩
    have hcell : ∃ c : Int, ((n : Int) < ((ns.map V.int).length : Int) → atI (ns.map V.int) (n : Int) = some (.int c)) ∧ (¬ (n : Int) < ((ns.map V.int).length : Int) → 7 * (n : Int) + 5 = c) := by
      by_cases hlt : n < ns.length
      · refine ⟨ns[n], fun _ => atI_nat ?_, fun z => absurd (by rw [List.length_map]; omega) z⟩
        rw [List.getElem?_map, List.getElem?_eq_getElem hlt]
        rfl
      · exact ⟨_, fun z => absurd z (by rw [List.length_map]; omega), fun _ => rfl⟩
    obtain ⟨c, hc1, hc2⟩ := hcell
    refine q_asg (v := .int c) (ev_if (et_test (ev_op (ev_var rfl) (ev_cb (ea_cons (ev_var rfl) ea_nil) (rc_lenL hS)) rv_I0)) (fun hb => ev_op (ev_var rfl) (ev_var rfl) (rv_ixL hS (hc1 (of_decide_eq_true hb))))
      (fun hb => ev_is (ev_op (ev_op ev_c (ev_var rfl) (rv_I (.inl ⟨by decide, by decide⟩))) ev_c rv_I0) (by rw [hc2 (of_decide_eq_false hb)]))) fun H1 e1 => ?_
    obtain ⟨g, hg0, hge⟩ : ∃ g : Int, 0 ≤ g ∧ absI c % (10 ^ (60 : Int).toNat * 10 ^ (60 : Int).toNat * 10 ^ (60 : Int).toNat) * (if decide (absI c ≥ 10 ^ (18 : Int).toNat) = true then 1 else 0) = g := by
      refine ⟨_, Int.mul_nonneg (Int.emod_nonneg _ (Int.ne_of_gt big3)) ?_, rfl⟩
      split <;> decide
    have pw : ∀ {σ : L2.St} {H1 : Hp}, Ev (tOp (rI CPow fun i j => .int (i ^ j.toNat)) (tC (.int 10)) (tC (.int 60))) σ H1 (.int (10 ^ (60 : Int).toNat)) := ev_op ev_c ev_c (rv_I ⟨by decide, by decide, by decide⟩)
    refine q_asg (v := .int g) (ev_is (ev_op (ev_op (ev_cb (ea_cons (ev_var rfl) ea_nil) rc_abs) (ev_op (ev_op pw pw (rv_I (wide_mul big1 big1 (by decide) (by decide) (by decide)))) pw (rv_I (wide_mul big2 big1 (by decide) (by decide) (by decide)))) (rv_I big3))
      (ev_cb (ea_cons (ev_op (ev_cb (ea_cons (ev_var rfl) ea_nil) rc_abs) (ev_op ev_c ev_c (rv_I ⟨by decide, by decide, by decide⟩)) rv_I0) ea_nil) (rc_intB)) (rv_I (.inr (by split <;> decide)))) (by rw [hge])) fun H2 e2 => ?_
    have m0 := Int.emod_nonneg c (show (2305843009213693951 : Int) ≠ 0 by decide)
    have m1 := Int.emod_lt_of_pos c (show (0 : Int) < 2305843009213693951 by decide)
    refine s_retL (el_lst (ea_cons (ev_var rfl) (ea_cons (ev_op (ev_op (ev_op (ev_op (ev_op (ev_var rfl) ev_c (rv_I (by show (0 : Int) < 2305843009213693951; decide))) ev_c (rv_I (.inl ⟨by omega, by omega⟩)))
      (ev_op ev_c (ev_var rfl) (rv_I (.inl ⟨by decide, by decide⟩))) rv_I0) ev_c rv_I0) ev_c (rv_I (by show (0 : Int) < 2305843009213693921; decide))) (ea_cons ev_c ea_nil))) (by show 3 ≤ 100000; decide)) fun p H3 hp e3 h3 => ?_
    refine q p H3 (fresh_back (e1.trans e2) hp) ((e1.trans e2).trans e3) ⟨g, _, 0, h3, hg0, Int.emod_nonneg _ (by decide), ?_, by decide, by decide⟩
    refine Int.lt_trans (Int.emod_lt_of_pos _ (by decide)) (by decide)
def spPickL : Sp := fun vs H Q _ => ∃ (p a : Addr) (m : Int) (xs : List V), vs = [.ref p, .ref a] ∧ m ≤ 100000 ∧ Pot H p m ∧ a ≠ p ∧ H a = some (.lst xs) ∧ 1 ≤ xs.length ∧ xs.length ≤ 1000 ∧
  ∀ v H', v ∈ xs → Xp p H H' → Pot H' p (m + 1) → Q v H'
theorem ok_of {f fT : Addr} {fd fdT : FuncData} {k : Nat} (F : Fun K "_law_of" "_law_of" sOf f fd) (FT : Fun K "_law_take" "_law_take" sTake fT fdT) (bT : Binds K fdT ["_law_pot_here", "_law_many"] []) (gT : mg "_law_take" = some (.ref fT)) (ml : mg "len" = none) :
    FnOk P w K mg base CX0 (k + 2) f fd ["_law_pot_here", "_law_some"] spPickL := by
  refine F.ok scOf (fun vs H Q E h => ?_) (fun cdv A outer s H vs Q E hr h => ?_)
  · obtain ⟨p, a, m, xs, rfl, _⟩ := h
    rfl
  · obtain ⟨p, a, m, xs, rfl, hm, hP, hne, ha, h1, h2, q⟩ := h
    refine ⟨_, pss_one (ps_ret (pe_ix ix_list (pv 1) (pe_call (ok_take FT) hr (by rfl) gT FT.kp bT .nil pass0 (pa_cons (pv 0) (pa_cons (pe_callB call_len_seq (by rfl) ml PySem.boot_len (pa_cons (pv 1) pa_nil)) pa_nil))) (fun _ _ => rfl))), ?_⟩
    refine ⟨_, rfl, _, rfl, _, rfl, a, xs, rfl, .inl (sq_of ha), p, _, m, rfl, by omega, by omega, hm, hP, fun r H' h0 h3 x pp => ?_⟩
    have hc : r.toNat < xs.length := by omega
    refine ⟨a, xs, r, xs[r.toNat], rfl, rfl, sq_of (x a _ hne ha), ?_, q _ H' (List.getElem_mem hc) x pp⟩
    have := atI_nat (xs := xs) (j := r.toNat) (v := xs[r.toNat]) (List.getElem?_eq_getElem hc)
    rw [Int.toNat_of_nonneg h0] at this
    exact this
end
end K52
namespace Es
open PySem PySem.Spec PyProof.Rows L2 Evl
theorem s_assoc (a b c : Str) : a ++ b ++ c = a ++ (b ++ c) := TL.ext_tl (by simp only [TL.tl_append, List.append_assoc])
theorem join_cons (q x : Str) {L : List Str} (h : L ≠ []) : Str.join q (x :: L) = x ++ q ++ Str.join q L := by
  cases L with
  | nil => exact absurd rfl h
  | cons y r => rfl
/-- two rows of pieces, the last of the one and the first of the other made one -/
def gl : List Str → List Str → List Str
  | [], B => B
  | [x], [] => [x]
  | [x], y :: B => (x ++ y) :: B
  | x :: x' :: A, B => x :: gl (x' :: A) B
theorem gl_ne : ∀ {A B : List Str}, A ≠ [] → gl A B ≠ []
  | [], _, h => absurd rfl h
  | [_], [], _ => by simp [gl]
  | [_], _ :: _, _ => by simp [gl]
  | _ :: _ :: _, _, _ => by simp [gl]
theorem join_gl (q : Str) : ∀ {A B : List Str}, A ≠ [] → B ≠ [] → Str.join q (gl A B) = Str.join q A ++ Str.join q B
  | [], _, h, _ => absurd rfl h
  | [_], [], _, h => absurd rfl h
  | [x], [y], _, _ => rfl
  | [x], y :: z :: B, _, _ => by
    show (x ++ y) ++ q ++ Str.join q (z :: B) = x ++ (y ++ q ++ Str.join q (z :: B))
    simp only [s_assoc]
  | x :: x' :: A, B, _, hB => by
    show Str.join q (x :: gl (x' :: A) B) = (x ++ q ++ Str.join q (x' :: A)) ++ Str.join q B
    rw [join_cons q x (gl_ne (by simp)), join_gl q (by simp) hB]
    simp only [s_assoc]
def Bad (x : Str) : Prop := ∃ c ∈ x.cps.toList, Unicode.isAlpha c = false
theorem Bad.not {x : Str} (h : Bad x) : Txt.isalpha x = false := by
  obtain ⟨c, hc, e⟩ := h
  unfold Txt.isalpha
  rw [← Array.all_toList]
  have : x.cps.toList.all Unicode.isAlpha = false := by
    rw [List.all_eq_false]
    exact ⟨c, hc, by rw [e]; decide⟩
  rw [this, Bool.and_false]
theorem Bad.left {x y : Str} (h : Bad x) : Bad (x ++ y) := by
  obtain ⟨c, hc, e⟩ := h
  refine ⟨c, ?_, e⟩
  show c ∈ TL.tl (x ++ y)
  rw [TL.tl_append]
  exact List.mem_append_left _ hc
theorem Bad.right {x y : Str} (h : Bad y) : Bad (x ++ y) := by
  obtain ⟨c, hc, e⟩ := h
  refine ⟨c, ?_, e⟩
  show c ∈ TL.tl (x ++ y)
  rw [TL.tl_append]
  exact List.mem_append_right _ hc
def HB : List Str → Prop
  | [] => False
  | x :: _ => Bad x
def LB : List Str → Prop
  | [] => False
  | [x] => Bad x
  | _ :: y :: r => LB (y :: r)
theorem HB.ne {L : List Str} (h : HB L) : L ≠ [] := fun z => by subst z; exact h
theorem LB.ne {L : List Str} (h : LB L) : L ≠ [] := fun z => by subst z; exact h
theorem HB.gl {A B : List Str} (h : HB A) : HB (gl A B) := by
  match A, B, h with
  | [x], [], h => exact h
  | [x], y :: B, h => exact Bad.left h
  | x :: x' :: A, B, h => exact h
theorem LB.gl : ∀ {A B : List Str}, A ≠ [] → LB B → LB (gl A B)
  | [], _, h, _ => absurd rfl h
  | [x], [], _, h => h.elim
  | [x], [y], _, h => Bad.right (show Bad y from h)
  | [x], y :: z :: B, _, h => h
  | x :: x' :: A, B, _, h => by
    have k := LB.gl (A := x' :: A) (by simp) h
    have n := gl_ne (A := x' :: A) (B := B) (by simp)
    show LB (x :: Es.gl (x' :: A) B)
    cases e : Es.gl (x' :: A) B with
    | nil => exact absurd e n
    | cons u r =>
      rw [e] at k
      exact k
theorem fa_gl : ∀ {A B : List Str}, LB A → HB B → (gl A B).filter Txt.isalpha = A.filter Txt.isalpha ++ B.filter Txt.isalpha
  | [], _, h, _ => h.elim
  | [_], [], _, h => h.elim
  | [x], y :: B, h, k => by
    show ((x ++ y) :: B).filter Txt.isalpha = [x].filter Txt.isalpha ++ (y :: B).filter Txt.isalpha
    rw [List.filter_cons_of_neg (by rw [Bad.not (Bad.left h)]; decide), List.filter_cons_of_neg (by rw [Bad.not h]; decide), List.filter_cons_of_neg (by rw [Bad.not (show Bad y from k)]; decide)]
    rfl
  | x :: x' :: A, B, h, k => by
    show (x :: gl (x' :: A) B).filter Txt.isalpha = (x :: x' :: A).filter Txt.isalpha ++ B.filter Txt.isalpha
    have ih := fa_gl (A := x' :: A) (B := B) h k
    cases e : Txt.isalpha x with
    | true => rw [List.filter_cons_of_pos e, List.filter_cons_of_pos e, ih]; rfl
    | false => rw [List.filter_cons_of_neg (by rw [e]; decide), List.filter_cons_of_neg (by rw [e]; decide), ih]
theorem mem_gl {P : Str → Prop} (ha : ∀ x y, P x → P y → P (x ++ y)) : ∀ {A B : List Str}, (∀ x ∈ A, P x) → (∀ x ∈ B, P x) → ∀ x ∈ gl A B, P x
  | [], _, _, h => h
  | [x], [], h, _ => h
  | [x], y :: B, h, k => fun z hz => by
    rcases List.mem_cons.mp hz with e | e
    · rw [e]
      exact ha _ _ (h x (List.mem_singleton.mpr rfl)) (k y (List.mem_cons_self ..))
    · exact k z (List.mem_cons_of_mem _ e)
  | x :: x' :: A, B, h, k => fun z hz => by
    rcases List.mem_cons.mp hz with e | e
    · rw [e]
      exact h x (List.mem_cons_self ..)
    · exact mem_gl ha (fun w hw => h w (List.mem_cons_of_mem _ hw)) k z e
mutual
def pcs : Tr → List Str
  | .leaf k n => ["(", k, ", ", n, ")"]
  | .node k ps => gl ["(", k, ", "] (pcss ps)
def pcss : List Tr → List Str
  | [] => [")"]
  | t :: r => match r with
    | [] => gl (pcs t) [")"]
    | _ :: _ => gl (pcs t) (gl [", "] (pcss r))
end
mutual
def wds : Tr → List Str
  | .leaf k n => [k, n]
  | .node k ps => k :: wdss ps
def wdss : List Tr → List Str
  | [] => []
  | t :: r => wds t ++ wdss r
end
theorem bad_open : Bad "(" := ⟨40, by decide, by decide +kernel⟩
theorem bad_close : Bad ")" := ⟨41, by decide, by decide +kernel⟩
theorem bad_comma : Bad ", " := ⟨44, by decide, by decide +kernel⟩
def Clean (x : Str) : Prop := (39 : Nat) ∉ x.cps.toList
theorem Clean.app (x y : Str) (a : Clean x) (b : Clean y) : Clean (x ++ y) := by
  intro h
  have h' : (39 : Nat) ∈ TL.tl (x ++ y) := h
  rw [TL.tl_append] at h'
  rcases List.mem_append.mp h' with z | z
  · exact a z
  · exact b z
theorem kinds_fact : ∀ k ∈ leafKinds ++ nodeKinds, Txt.isalpha k = true ∧ k.cps.toList.contains 39 = false ∧ reprText k = "'" ++ k ++ "'" := by decide +kernel
theorem names_fact : ∀ k ∈ names, Txt.isalpha k = true ∧ k.cps.toList.contains 39 = false ∧ reprText k = "'" ++ k ++ "'" := by decide +kernel
theorem clean_of {k : Str} (h : k.cps.toList.contains 39 = false) : Clean k := fun z => by
  rw [List.contains_iff_mem.mpr z] at h
  cases h
theorem clean_open : Clean "(" := by unfold Clean; decide
theorem clean_close : Clean ")" := by unfold Clean; decide
theorem clean_comma : Clean ", " := by unfold Clean; decide
mutual
theorem pcs_ok : ∀ t : Tr, t.ok → HB (pcs t) ∧ LB (pcs t) ∧ (pcs t).filter Txt.isalpha = wds t ∧ (∀ x ∈ pcs t, Clean x) ∧ Str.join "'" (pcs t) = t.toD.shown
  | .leaf k n, h => by
    obtain ⟨a1, a2, a3⟩ := kinds_fact k (List.mem_append_left _ h.1)
    obtain ⟨b1, b2, b3⟩ := names_fact n h.2
    refine ⟨bad_open, bad_close, ?_, ?_, ?_⟩
    · show (["(", k, ", ", n, ")"] : List Str).filter Txt.isalpha = [k, n]
      rw [List.filter_cons_of_neg (by rw [bad_open.not]; decide), List.filter_cons_of_pos a1, List.filter_cons_of_neg (by rw [bad_comma.not]; decide), List.filter_cons_of_pos b1, List.filter_cons_of_neg (by rw [bad_close.not]; decide)]
      rfl
    · intro x hx
      simp only [pcs, List.mem_cons, List.not_mem_nil, or_false] at hx
      rcases hx with rfl | rfl | rfl | rfl | rfl
      · exact clean_open
      · exact clean_of a2
      · exact clean_comma
      · exact clean_of b2
      · exact clean_close
    · show "(" ++ "'" ++ (k ++ "'" ++ (", " ++ "'" ++ (n ++ "'" ++ ")"))) = ("(" : Str) ++ (reprText k ++ ", " ++ reprText n) ++ ")"
      rw [a3, b3]
      simp only [s_assoc]
  | .node k ps, h => by
    obtain ⟨a1, a2, a3⟩ := kinds_fact k (List.mem_append_right _ h.1)
    obtain ⟨b1, b2, b3, b4, b5⟩ := pcss_ok ps h.2.1 h.2.2
    have hl : LB ["(", k, ", "] := bad_comma
    refine ⟨HB.gl (show HB ["(", k, ", "] from bad_open), LB.gl (by simp) b2, ?_, ?_, ?_⟩
    · show (gl ["(", k, ", "] (pcss ps)).filter Txt.isalpha = k :: wdss ps
      rw [fa_gl hl b1, b3, List.filter_cons_of_neg (by rw [bad_open.not]; decide), List.filter_cons_of_pos a1, List.filter_cons_of_neg (by rw [bad_comma.not]; decide)]
      rfl
    · refine mem_gl Clean.app ?_ b4
      intro x hx
      simp only [List.mem_cons, List.not_mem_nil, or_false] at hx
      rcases hx with rfl | rfl | rfl
      · exact clean_open
      · exact clean_of a2
      · exact clean_comma
    · show Str.join "'" (gl ["(", k, ", "] (pcss ps)) = tupleText (reprText k :: PyData.shownAll (Tr.toDs ps))
      rw [join_gl _ (by simp) b1.ne, b5]
      obtain ⟨t, r, rfl⟩ : ∃ t r, ps = t :: r := by
        cases ps with
        | nil => exact absurd rfl h.2.1
        | cons t r => exact ⟨t, r, rfl⟩
      have hs : PyData.shownAll (Tr.toDs (t :: r)) = t.toD.shown :: PyData.shownAll (Tr.toDs r) := rfl
      unfold tupleText
      rw [hs, if_neg (by simp), a3]
      rw [join_cons ", " ("'" ++ k ++ "'") (L := t.toD.shown :: PyData.shownAll (Tr.toDs r)) (by simp)]
      show "(" ++ "'" ++ (k ++ "'" ++ ", ") ++ (Str.join ", " (t.toD.shown :: PyData.shownAll (Tr.toDs r)) ++ ")") = _
      simp only [s_assoc]
theorem pcss_ok : ∀ ts : List Tr, ts ≠ [] → Tr.oks ts → HB (pcss ts) ∧ LB (pcss ts) ∧ (pcss ts).filter Txt.isalpha = wdss ts ∧ (∀ x ∈ pcss ts, Clean x) ∧ Str.join "'" (pcss ts) = Str.join ", " (PyData.shownAll (Tr.toDs ts)) ++ ")"
  | [], h, _ => absurd rfl h
  | [t], _, h => by
    obtain ⟨b1, b2, b3, b4, b5⟩ := pcs_ok t h.1
    refine ⟨HB.gl b1, LB.gl b1.ne (show LB [")"] from bad_close), ?_, ?_, ?_⟩
    · show (gl (pcs t) [")"]).filter Txt.isalpha = wds t ++ []
      rw [fa_gl b2 (show HB [")"] from bad_close), b3, List.filter_cons_of_neg (by rw [bad_close.not]; decide)]
      rfl
    · refine mem_gl Clean.app b4 ?_
      intro x hx
      rw [List.mem_singleton.mp hx]
      exact clean_close
    · show Str.join "'" (gl (pcs t) [")"]) = t.toD.shown ++ ")"
      rw [join_gl _ b1.ne (by simp), b5]
      rfl
  | t :: u :: r, _, h => by
    obtain ⟨b1, b2, b3, b4, b5⟩ := pcs_ok t h.1
    obtain ⟨c1, c2, c3, c4, c5⟩ := pcss_ok (u :: r) (by simp) h.2
    have hc : HB (gl [", "] (pcss (u :: r))) := HB.gl (show HB [", "] from bad_comma)
    refine ⟨HB.gl b1, LB.gl b1.ne (LB.gl (by simp) c2), ?_, ?_, ?_⟩
    · show (gl (pcs t) (gl [", "] (pcss (u :: r)))).filter Txt.isalpha = wds t ++ wdss (u :: r)
      rw [fa_gl b2 hc, b3, fa_gl (show LB [", "] from bad_comma) c1, c3, List.filter_cons_of_neg (by rw [bad_comma.not]; decide)]
      rfl
    · refine mem_gl Clean.app b4 (mem_gl Clean.app ?_ c4)
      intro x hx
      rw [List.mem_singleton.mp hx]
      exact clean_comma
    · show Str.join "'" (gl (pcs t) (gl [", "] (pcss (u :: r)))) = (t.toD.shown ++ ", " ++ Str.join ", " (PyData.shownAll (Tr.toDs (u :: r)))) ++ ")"
      rw [join_gl _ b1.ne hc.ne, b5, join_gl _ (by simp) c1.ne, c5]
      show t.toD.shown ++ (", " ++ (Str.join ", " (PyData.shownAll (Tr.toDs (u :: r))) ++ ")")) = _
      simp only [s_assoc]
end
theorem gl_len : ∀ A B : List Str, (gl A B).length ≤ A.length + B.length
  | [], B => by show B.length ≤ 0 + B.length; omega
  | [x], [] => Nat.le_refl _
  | [x], y :: B => by show B.length + 1 ≤ 1 + (B.length + 1); omega
  | x :: x' :: A, B => by
    have := gl_len (x' :: A) B
    show (gl (x' :: A) B).length + 1 ≤ (x' :: A).length + 1 + B.length
    omega
mutual
theorem pcs_len : ∀ t : Tr, (pcs t).length ≤ t.big
  | .leaf k n => by show 5 ≤ 15; decide
  | .node k ps => by
    have a := gl_len ["(", k, ", "] (pcss ps)
    have b := pcss_len ps
    show (gl ["(", k, ", "] (pcss ps)).length ≤ 9 + Tr.bigs ps
    have c : (["(", k, ", "] : List Str).length = 3 := rfl
    omega
theorem pcss_len : ∀ ts : List Tr, (pcss ts).length ≤ Tr.bigs ts + 1
  | [] => Nat.le_refl _
  | [t] => by
    have a := gl_len (pcs t) [")"]
    have b := pcs_len t
    show (gl (pcs t) [")"]).length ≤ t.big + 1 + 0 + 1
    have c : ([")"] : List Str).length = 1 := rfl
    omega
  | t :: u :: r => by
    have a := gl_len (pcs t) (gl [", "] (pcss (u :: r)))
    have b := gl_len [", "] (pcss (u :: r))
    have c := pcs_len t
    have d := pcss_len (u :: r)
    show (gl (pcs t) (gl [", "] (pcss (u :: r)))).length ≤ t.big + 1 + Tr.bigs (u :: r) + 1
    have e : ([", "] : List Str).length = 1 := rfl
    omega
end
/-- the words of what is written -/
theorem split_of {t : Tr} (h : t.ok) : Txt.split t.toD.shown "'" = pcs t := by
  obtain ⟨h1, h2, h3, h4, h5⟩ := pcs_ok t h
  rw [← h5, ← TL.join_eq, TL.split_join (y := "'") (s := 39) (S := []) rfl (by decide +kernel) h1.ne h4]
theorem words_of {t : Tr} (h : t.ok) : (Txt.split t.toD.shown "'").filter Txt.isalpha = wds t := by
  rw [split_of h]
  exact (pcs_ok t h).2.2.1
/-! the pairs -/
def prs : List Str → List Tr
  | a :: b :: r => if a ∈ leafKinds then .leaf a b :: prs (b :: r) else prs (b :: r)
  | _ => []
def LN : List Str → Prop
  | [] => False
  | [x] => x ∉ leafKinds
  | _ :: y :: r => LN (y :: r)
theorem prs_app : ∀ {A B : List Str}, LN A → prs (A ++ B) = prs A ++ prs B
  | [], _, h => h.elim
  | [x], [], _ => rfl
  | [x], y :: B, h => by
    show (if x ∈ leafKinds then _ else prs (y :: B)) = [] ++ prs (y :: B)
    rw [if_neg (show x ∉ leafKinds from h)]
    rfl
  | x :: y :: A, B, h => by
    have ih := prs_app (A := y :: A) (B := B) h
    show (if x ∈ leafKinds then Tr.leaf x y :: prs (y :: A ++ B) else prs (y :: A ++ B)) = (if x ∈ leafKinds then Tr.leaf x y :: prs (y :: A) else prs (y :: A)) ++ prs B
    rw [ih]
    split <;> rfl
theorem LN.app : ∀ {A B : List Str}, LN B → LN (A ++ B)
  | [], _, h => h
  | [x], [], h => h.elim
  | [x], y :: B, h => h
  | x :: y :: A, B, h => LN.app (A := y :: A) h
theorem LN.cons {x : Str} {A : List Str} (h : LN A) : LN (x :: A) := LN.app (A := [x]) h
theorem name_not : ∀ n ∈ names, n ∉ leafKinds := by decide
theorem kind_not : ∀ n ∈ nodeKinds, n ∉ leafKinds := by decide
mutual
theorem wds_lv : ∀ t : Tr, t.ok → LN (wds t) ∧ prs (wds t) = t.lv
  | .leaf k n, h => ⟨name_not n h.2, by
    show (if k ∈ leafKinds then Tr.leaf k n :: [] else []) = [Tr.leaf k n]
    rw [if_pos h.1]⟩
  | .node k ps, h => by
    obtain ⟨a, b⟩ := wdss_lv ps h.2.1 h.2.2
    refine ⟨LN.cons a, ?_⟩
    show prs ([k] ++ wdss ps) = Tr.lvs ps
    rw [prs_app (A := [k]) (kind_not k h.1), b]
    rfl
theorem wdss_lv : ∀ ts : List Tr, ts ≠ [] → Tr.oks ts → LN (wdss ts) ∧ prs (wdss ts) = Tr.lvs ts
  | [], h, _ => absurd rfl h
  | [t], _, h => by
    obtain ⟨a, b⟩ := wds_lv t h.1
    show LN (wds t ++ []) ∧ prs (wds t ++ []) = t.lv ++ []
    rw [List.append_nil, List.append_nil]
    exact ⟨a, b⟩
  | t :: u :: r, _, h => by
    obtain ⟨a, b⟩ := wds_lv t h.1
    obtain ⟨c, d⟩ := wdss_lv (u :: r) (by simp) h.2
    refine ⟨LN.app (A := wds t) c, ?_⟩
    show prs (wds t ++ wdss (u :: r)) = t.lv ++ Tr.lvs (u :: r)
    rw [prs_app a, b, d]
end
theorem prs_snoc : ∀ (ws : List Str) (i : Nat) (a b : Str), ws[i]? = some a → ws[i + 1]? = some b → prs (ws.take (i + 2)) = prs (ws.take (i + 1)) ++ (if a ∈ leafKinds then [.leaf a b] else [])
  | x :: y :: r, 0, a, b, h1, h2 => by
    cases h1
    cases h2
    show (if x ∈ leafKinds then Tr.leaf x y :: prs [y] else prs [y]) = [] ++ _
    split <;> rfl
  | x :: y :: r, i + 1, a, b, h1, h2 => by
    have ih := prs_snoc (y :: r) i a b h1 h2
    show (if x ∈ leafKinds then Tr.leaf x y :: prs ((y :: r).take (i + 2)) else prs ((y :: r).take (i + 2))) = (if x ∈ leafKinds then Tr.leaf x y :: prs ((y :: r).take (i + 1)) else prs ((y :: r).take (i + 1))) ++ _
    rw [ih]
    split <;> rfl
  | [x], 0, _, _, _, h2 => by cases h2
  | [x], i + 1, _, _, h1, _ => by cases h1
  | [], _, _, _, h1, _ => by cases h1
end Es
namespace Es
open PySem PySem.Spec PyProof.Rows L2 Evl
/-- a text of letters -/
def LetS (z : Str) : Prop := ∀ c ∈ z.cps.toList, c ∈ abcS.cps.toList
theorem tok_of {z : Str} (h : LetS z) (h1 : 1 ≤ z.length) (h2 : z.length ≤ 8) : tokS z = true := by
  unfold tokS
  rw [decide_eq_true (show (1 : Int) ≤ (z.length : Int) by omega), decide_eq_true (show (z.length : Int) ≤ 8 by omega), Bool.and_self, Bool.true_and]
  refine List.all_eq_true.mpr fun b hb => ?_
  obtain ⟨c, hc, rfl⟩ := List.mem_map.mp hb
  exact decide_eq_true (h c hc)
theorem LetS.app {a b : Str} (ha : LetS a) (hb : LetS b) : LetS (a ++ b) := by
  intro c hc
  rw [Str.cps_append, Array.toList_append] at hc
  rcases List.mem_append.mp hc with h | h
  · exact ha c h
  · exact hb c h
theorem LetS.cut {z : Str} (h : LetS z) (lo hi : Option Int) : LetS (cutS z lo hi) := by
  intro c hc
  have hc' : c ∈ ((z.cps.toList.drop (HT.sIx z.length 0 lo)).take (HT.sIx z.length z.length hi - HT.sIx z.length 0 lo)) := by
    have e : (cutS z lo hi).cps.toList = ((z.cps.toList.drop (HT.sIx z.length 0 lo)).take (HT.sIx z.length z.length hi - HT.sIx z.length 0 lo)) := by
      unfold cutS
      rw [List.toList_toArray]
    rw [← e]
    exact hc
  exact h c (List.mem_of_mem_drop (List.mem_of_mem_take hc'))
theorem cut_len2 (z : Str) (k : Nat) (h : k ≤ z.length) : (cutS z none (some (k : Int))).length = k ∧ (cutS z (some (k : Int)) none).length = z.length - k := by
  have hl : z.cps.toList.length = z.length := Array.length_toList
  constructor
  · show (List.toArray _).size = k
    rw [List.size_toArray, List.length_take, List.length_drop, HT.sIx_none, HT.sIx_nat, hl]
    omega
  · show (List.toArray _).size = z.length - k
    rw [List.size_toArray, List.length_take, List.length_drop, HT.sIx_none, HT.sIx_nat, hl]
    omega
theorem let_glue : ∀ ys : List Str, (∀ y ∈ ys, LetS y) → LetS (Str.join "" ys)
  | [], _ => fun c hc => by cases hc
  | [y], h => h y (List.mem_singleton.mpr rfl)
  | x :: z :: r, h => by
    show LetS (x ++ "" ++ Str.join "" (z :: r))
    exact ((h x (List.mem_cons_self ..)).app (fun c hc => by cases hc)).app (let_glue (z :: r) fun y hy => h y (List.mem_cons_of_mem _ hy))
def spPickS : Sp := fun vs H Q _ => ∃ (p : Addr) (m : Int), vs = [.ref p, .str abcS] ∧ m ≤ 100000 ∧ Pot H p m ∧
  ∀ (c : Nat) H', c ∈ abcS.cps.toList → Xp p H H' → Pot H' p (m + 1) → Q (.str ⟨#[c]⟩) H'
def spNames : Sp := fun vs H Q _ => ∃ (p : Addr) (n : Nat) (c : Int), vs = [.ref p, .int (n : Int)] ∧ n ≤ 26 ∧ 0 ≤ c ∧ c + 12 ≤ 100000 ∧ Pot H p c ∧
  ∀ (l : Addr) (zs : List Str) (H' : Hp), l ≠ p → H l = none → Xp p H H' → Pot H' p (c + 12) → H' l = some (.lst (zs.map V.str)) → zs.length = n → (∀ z ∈ zs, tokS z = true) → Q (.ref l) H'
theorem Pot.mutL {H : Hp} {p D : Addr} {n : Int} {o : HO} (h : Pot H p n) (hne : D ≠ p) : Pot (upd H D o) p n := by
  obtain ⟨g, s, c, h1, r⟩ := h
  refine ⟨g, s, c, ?_, r⟩
  rw [upd_ne hne.symm]
  exact h1
end Es
namespace K52
open PySem PySem.Spec PyProof.Rows L2 Evl Es
section
variable {P : Program} {w : World} {K : PySem.W.Frag} {mg : Str → Option Value} {base : Heap}
theorem ok_ofS {f fT : Addr} {fd fdT : FuncData} {k : Nat} (F : Fun K "_law_of" "_law_of" sOf f fd) (FT : Fun K "_law_take" "_law_take" sTake fT fdT) (bT : Binds K fdT ["_law_pot_here", "_law_many"] []) (gT : mg "_law_take" = some (.ref fT)) (ml : mg "len" = none) :
    FnOk P w K mg base CX0 (k + 2) f fd ["_law_pot_here", "_law_some"] spPickS := by
  refine F.ok scOf (fun vs H Q E h => ?_) (fun cdv A outer s H vs Q E hr h => ?_)
  · obtain ⟨p, m, rfl, _⟩ := h
    rfl
  · obtain ⟨p, m, rfl, hm, hP, q⟩ := h
    refine ⟨_, pss_one (ps_ret (pe_item_str (pv 1) (pe_call (ok_take FT) hr (by rfl) gT FT.kp bT .nil pass0 (pa_cons (pv 0) (pa_cons (pe_callB call_len (by rfl) ml PySem.boot_len (pa_cons (pv 1) pa_nil)) pa_nil))) (fun _ _ => rfl))), ?_⟩
    refine ⟨_, rfl, _, rfl, _, rfl, _, _, rfl, ⟨sz_of (by decide), rfl⟩, p, 26, m, rfl, by decide, by decide, hm, hP, fun r H' h0 h1 x pp => ?_⟩
    have hc : r.toNat < abcS.cps.size := by show r.toNat < 26; omega
    refine ⟨abcS, r, abcS.cps[r.toNat], rfl, rfl, h0, by omega, by show r < 26; omega, by simp [hc], ?_⟩
    exact q _ H' (by rw [Array.mem_toList_iff]; exact Array.getElem_mem hc) x pp
abbrev nNames : List Str := ["_law_pot_here", "_law_many", "_law_letters", "_law_start", "_law_hop", "_law_size", "_law_stem", "_law_turn", "_law_cut", "_law_own", "_law_sign"]
theorem scNames : FnScope nNames ["_law_pot_here", "_law_many"] (defScope sNames) := ⟨rfl, rfl, rfl, by decide +kernel, rfl, by decide +kernel, by decide +kernel⟩
theorem ok_names {f fT fO : Addr} {fd fdT fdO : FuncData} {k : Nat} (F : Fun K "_law_names" "_law_names" sNames f fd) (FT : Fun K "_law_take" "_law_take" sTake fT fdT) (bT : Binds K fdT ["_law_pot_here", "_law_many"] []) (gT : mg "_law_take" = some (.ref fT))
    (FO : Fun K "_law_of" "_law_of" sOf fO fdO) (bO : Binds K fdO ["_law_pot_here", "_law_some"] []) (gO : mg "_law_of" = some (.ref fO)) (ml : mg "len" = none) (mr : mg "range" = none) :
    FnOk P w K mg base CX0 (k + 3) f fd ["_law_pot_here", "_law_many"] spNames := by
  refine F.ok scNames (fun vs H Q E h => ?_) (fun cdv A outer s H vs Q E hr h => ?_)
  · obtain ⟨p, n, c, rfl, _⟩ := h
    rfl
  · obtain ⟨p, n, c, rfl, hn, hc0, hc1, hP, q⟩ := h
    have G1 : FnOk P w K mg base CX0 (k + 2) fT fdT ["_law_pot_here", "_law_many"] spTake := ok_take FT
    have G2 : FnOk P w K mg base CX0 (k + 2) fO fdO ["_law_pot_here", "_law_some"] spPickS := ok_ofS FO FT bT gT ml
    have G3 : FnOk P w K mg base CX0 (k + 2) fO fdO ["_law_pot_here", "_law_some"] spPickL := ok_of FO FT bT gT ml
    refine ⟨_, pss_cons (ps_set (i := 2) scNames.nd rfl (.inr rfl) pe_str)
      (pss_cons (ps_asg (pe_tup (pa_cons (pe_call G1 hr (by rfl) gT FT.kp bT .nil pass0 (pa_cons (pv 0) (pa_cons pe_int pa_nil))) (pa_cons (pe_call G3 hr (by rfl) gO FO.kp bO .nil pass0 (pa_cons (pv 0) (pa_cons (pe_lst (pa_cons pe_int (pa_cons pe_int (pa_cons pe_int (pa_cons pe_int (pa_cons pe_int (pa_cons pe_int pa_nil))))))) pa_nil)))
          (pa_cons (pe_call G3 hr (by rfl) gO FO.kp bO .nil pass0 (pa_cons (pv 0) (pa_cons (pe_lst (pa_cons pe_int (pa_cons pe_int (pa_cons pe_int (pa_cons pe_int (pa_cons pe_int (pa_cons pe_int pa_nil))))))) pa_nil))) pa_nil))))
        (pg_tup rfl (pgs_cons (pg_name (i := 3) scNames.nd rfl (.inr rfl)) (pgs_cons (pg_name (i := 4) scNames.nd rfl (.inr rfl)) (pgs_cons (pg_name (i := 5) scNames.nd rfl (.inl rfl)) pgs_nil)))))
      (pss_cons (ps_set (i := 6) scNames.nd rfl (.inr rfl) (pe_join pe_str (pe_lc (own := [("_law_turn", 7)]) (g := gName 7) (tt := tYes) rfl scNames.nd (pi_range1 (by rfl) mr (pa_cons (pv 5) pa_nil))
          (blkOk_by (N := nNames) (sc := defScope sNames) (own := [("_law_turn", 7)]) (by decide +kernel)) (fun _ _ _ _ _ => pg_name (i := 7) scNames.nd rfl (Or.inl rfl)) (fun _ _ _ _ _ => pts_nil)
          (fun _ _ _ _ _ => pe_call G2 hr (by rfl) gO FO.kp bO .nil pass0 (pa_cons (pv 0) (pa_cons (pv 2) pa_nil))))))
      (pss_cons (ps_set (i := 8) scNames.nd rfl (.inr rfl) (pe_call G1 hr (by rfl) gT FT.kp bT .nil pass0 (pa_cons (pv 0) (pa_cons (pe_op op_add (pv 5) pe_int) pa_nil))))
      (pss_cons (ps_setLc (i := 9) (own := [("_law_turn", 7)]) (g := gName 7) (tt := tYes) rfl scNames.nd rfl rfl (sw_true rfl rfl rfl (by decide +kernel)) (pi_range1 (by rfl) mr (pa_cons (pv 1) pa_nil))
          (blkOk_by (N := nNames) (sc := defScope sNames) (own := [("_law_turn", 7)]) (by decide +kernel)) (fun _ _ _ _ _ => pg_name (i := 7) scNames.nd rfl (Or.inl rfl)) (fun _ _ _ _ _ => pts_nil)
          (fun _ _ _ _ _ => pe_item_str (pv 2) (pe_op op_mod (pe_op op_add (pv 3) (pe_op op_mul (pv 4) (pv 7))) pe_int) (fun _ _ => rfl)))
      (pss_one (ps_ret (pe_lc (own := [("_law_sign", 10)]) (g := gName 10) (tt := tYes) rfl scNames.nd (pi_list (pv 9))
          (blkOk_by (N := nNames) (sc := defScope sNames) (own := [("_law_sign", 10)]) (by decide +kernel)) (fun _ _ _ _ _ => pg_name (i := 10) scNames.nd rfl (Or.inl rfl)) (fun _ _ _ _ _ => pts_nil)
          (fun _ _ _ _ _ => pe_op op_add_str (pe_op op_add_str (pe_slice sl_str (pv 6) po_none (po_some (pv 8))) (pv 10)) (pe_slice sl_str (pv 6) (po_some (pv 8)) po_none))))))))), ?_⟩
    refine q_asg ev_c fun H1 e1 => ?_
    -- the three numbers
    refine ⟨.ref p, rfl, p, 26, c, rfl, by decide, by decide, by omega, hP.up e1, fun st H2 st0 st1 x2 P2 => ?_⟩
    refine ⟨.ref p, rfl, sz_of (by show 6 ≤ 100000; decide), fun a na => ⟨p, a, c + 1, _, rfl, by omega, P2.up (Ex.new na), P2.ne na, upd_same, by show 1 ≤ 6; decide, by show 6 ≤ 1000; decide, fun hv H3 hm x3 P3 => ?_⟩⟩
    obtain ⟨hop, rfl, hop0, hop1⟩ : ∃ j : Int, hv = .int j ∧ 0 ≤ j ∧ j ≤ 11 := by
      simp only [List.mem_cons, List.not_mem_nil, or_false] at hm
      rcases hm with e | e | e | e | e | e <;> subst e <;> exact ⟨_, rfl, by decide, by decide⟩
    refine ⟨.ref p, rfl, sz_of (by show 6 ≤ 100000; decide), fun b nb => ⟨p, b, c + 1 + 1, _, rfl, by omega, P3.up (Ex.new nb), P3.ne nb, upd_same, by show 1 ≤ 6; decide, by show 6 ≤ 1000; decide, fun sv H4 hm4 x4 P4 => ?_⟩⟩
    obtain ⟨sz, rfl, sz1⟩ : ∃ j : Nat, sv = .int (j : Int) ∧ j ≤ 7 := by
      simp only [List.mem_cons, List.not_mem_nil, or_false] at hm4
      rcases hm4 with e | e | e | e | e | e <;> subst e
      · exact ⟨0, rfl, by decide⟩
      · exact ⟨0, rfl, by decide⟩
      · exact ⟨0, rfl, by decide⟩
      · exact ⟨1, rfl, by decide⟩
      · exact ⟨3, rfl, by decide⟩
      · exact ⟨7, rfl, by decide⟩
    refine ⟨sz_of (by show 3 ≤ 100000; decide), fun tp ntp => ?_⟩
    have e5 := Ex.new (o := .tup [.int st, .int hop, .int (sz : Int)]) ntp
    have x5 : Xp p H (upd H4 tp (.tup [.int st, .int hop, .int (sz : Int)])) := (((((Xp.ex e1).trans x2).trans ((Xp.ex (Ex.new na)).trans x3)).trans ((Xp.ex (Ex.new nb)).trans x4)).trans (Xp.ex e5))
    have P5 : Pot (upd H4 tp (.tup [.int st, .int hop, .int (sz : Int)])) p (c + 1 + 1 + 1) := P4.up e5
    have htp : upd H4 tp (.tup [.int st, .int hop, .int (sz : Int)]) tp = some (.tup [.int st, .int hop, .int (sz : Int)]) := upd_same
    generalize upd H4 tp (.tup [.int st, .int hop, .int (sz : Int)]) = H5 at x5 P5 htp
    refine ⟨tp, _, rfl, st_of htp, rfl, _, _, rfl, _, _, rfl, _, _, rfl, rfl, ?_⟩
    -- the stem
    refine ⟨⟨_, rfl⟩, .int (sz : Int), rfl, (sz : Int), rfl, by omega, by omega, fun D nD => lc_range (lo := 0) (n := sz) (fun i H' => Xp p H5 H' ∧ Pot H' p (c + 3 + i) ∧ ∃ ys : List Str, H' D = some (.lst (ys.map V.str)) ∧ ys.length = i ∧ (∀ y ∈ ys, y.length = 1) ∧ ∀ y ∈ ys, LetS y) ?_ ?_ ?_⟩
    · exact ⟨(Xp.refl _ _).mut nD, (P5.up (Ex.new nD)).more (by omega), [], upd_same, rfl, (fun _ z => nomatch z), (fun _ z => nomatch z)⟩
    · intro i H' hi ⟨xi, Pi, ys, hD, hl, h1, h2⟩
      refine ⟨rfl, .ref p, rfl, .str abcS, rfl, p, c + 3 + i, rfl, by omega, Pi, fun c1 H6 hc1 x6 P6 => ⟨ys.map V.str, x6 D _ (P5.ne nD) hD, ?_, (xi.trans x6).mut nD, (P6.mutL (P5.ne nD)).more (by omega), ys ++ [⟨#[c1]⟩], ?_, ?_, ?_, ?_⟩⟩
      · rw [List.length_map]
        exact sz_lt (by omega)
      · rw [upd_same, List.map_append]
        rfl
      · rw [List.length_append, hl]
        rfl
      · intro y hy
        rcases List.mem_append.mp hy with z | z
        · exact h1 y z
        · rw [List.mem_singleton.mp z]
          rfl
      · intro y hy
        rcases List.mem_append.mp hy with z | z
        · exact h2 y z
        · rw [List.mem_singleton.mp z]
          intro c2 hc2
          have : c2 ∈ [c1] := hc2
          rw [List.mem_singleton.mp this]
          exact hc1
    intro H6 ⟨x6, P6, ys, hD, hl, h1, h2⟩
    have hsum : (ys.map (·.length)).sum = ys.length := by
      clear hD hl h2
      induction ys with
      | nil => rfl
      | cons y r ih =>
        rw [List.map_cons, List.sum_cons, ih (fun z hz => h1 z (List.mem_cons_of_mem _ hz)), h1 y (List.mem_cons_self ..), List.length_cons]
        omega
    refine ⟨"", D, ys, rfl, rfl, .inl (sq_of hD), ?_, ?_⟩
    · rw [hsum]
      show ys.length + ys.length * 0 ≤ 16777216
      omega
    rw [TL.join_eq]
    have hsl : (Str.join "" ys).length = sz := by rw [len_glue ys h1, hl]
    have hsL : LetS (Str.join "" ys) := let_glue ys h2
    generalize Str.join "" ys = stem at hsl hsL
    -- where it is cut
    refine ⟨.ref p, rfl, .int (sz : Int), rfl, _, _, rfl, rfl, p, (sz : Int) + 1, c + 3 + sz, rfl, by omega, by omega, by omega, P6, fun cut H7 ct0 ct1 x7 P7 => ?_⟩
    -- the signs
    refine ⟨.int (n : Int), rfl, (n : Int), rfl, by omega, by omega, fun D2 nD2 => lc_range (lo := 0) (n := n) (fun i H' => Xp p H7 H' ∧ Pot H' p (c + 3 + sz + 1) ∧ ∃ ys : List Str, H' D2 = some (.lst (ys.map V.str)) ∧ ys.length = i ∧ (∀ y ∈ ys, y.length = 1) ∧ ∀ y ∈ ys, LetS y) ?_ ?_ ?_⟩
    · exact ⟨(Xp.refl _ _).mut nD2, P7.up (Ex.new nD2), [], upd_same, rfl, (fun _ z => nomatch z), (fun _ z => nomatch z)⟩
    · intro i H' hi ⟨xi, Pi, ys2, hD2, hl2, h3, h4⟩
      have m0 : 0 ≤ (st + hop * (i : Int)) % 26 := Int.emod_nonneg _ (by decide)
      have m1 : (st + hop * (i : Int)) % 26 < 26 := Int.emod_lt_of_pos _ (by decide)
      generalize hM : (st + hop * (i : Int)) % 26 = M at m0 m1
      have hcc : M.toNat < abcS.cps.size := by show M.toNat < 26; omega
      have hk : ((0 : Int) + (i : Int)) = (i : Int) := by omega
      refine ⟨rfl, .str abcS, rfl, .int st, rfl, .int hop, rfl, .int ((0 : Int) + (i : Int)), rfl, hop, (0 : Int) + (i : Int), rfl, rfl, .inl ⟨by omega, by omega⟩, st, hop * ((0 : Int) + (i : Int)), rfl, rfl, st + hop * ((0 : Int) + (i : Int)), 26, rfl, rfl, (by show (0 : Int) < 26; decide), abcS, (st + hop * ((0 : Int) + (i : Int))) % 26, abcS.cps[M.toNat], rfl, rfl, ?_, ?_, ?_, ?_, ys2.map V.str, hD2, ?_, xi.mut nD2, Pi.mutL (P7.ne nD2), ys2 ++ [⟨#[abcS.cps[M.toNat]]⟩], ?_, ?_, ?_, ?_⟩
      · rw [hk, hM]
        exact m0
      · rw [hk, hM]
        omega
      · rw [hk, hM]
        show M < 26
        omega
      · rw [hk, hM]
        simp [hcc]
      · rw [List.length_map]
        exact sz_lt (by omega)
      · rw [upd_same, List.map_append]
        rfl
      · rw [List.length_append, hl2]
        rfl
      · intro y hy
        rcases List.mem_append.mp hy with z | z
        · exact h3 y z
        · rw [List.mem_singleton.mp z]
          rfl
      · intro y hy
        rcases List.mem_append.mp hy with z | z
        · exact h4 y z
        · rw [List.mem_singleton.mp z]
          intro c2 hc2
          have : c2 ∈ [abcS.cps[M.toNat]] := hc2
          rw [List.mem_singleton.mp this, Array.mem_toList_iff]
          exact Array.getElem_mem hcc
    intro H8 ⟨x8, P8, ys2, hD2, hl2, h3, h4⟩
    have hD2p : D2 ≠ p := P7.ne nD2
    -- the names
    have hcut : ∃ k : Nat, cut = (k : Int) ∧ k ≤ sz := ⟨cut.toNat, by omega, by omega⟩
    obtain ⟨kc, rfl, hkc⟩ := hcut
    obtain ⟨cl1, cl2⟩ := cut_len2 stem kc (by omega)
    refine ⟨.ref D2, rfl, D2, rfl, ⟨_, sq_of hD2⟩, fun D3 nD3 => ?_⟩
    refine lc_it (walk_list (xs := ys2.map V.str)) (fun i H' => Ex H8 H' ∧ ∃ zs : List Str, H' D3 = some (.lst (zs.map V.str)) ∧ zs.length = i ∧ ∀ z ∈ zs, tokS z = true) ⟨Ex.new nD3, [], upd_same, rfl, (fun _ z => nomatch z)⟩ (fun i H' _ z => sq_of (z.1 _ _ hD2)) (fun i x Ha Hb hi p' y => ?_) (fun Hc p' => ?_)
    · obtain ⟨rfl, hx⟩ := y
      obtain ⟨e8, zs, hD3, hzl, hz⟩ := p'
      rw [List.getElem?_map] at hx
      obtain ⟨sg, hsg, rfl⟩ : ∃ sg, ys2[i]? = some sg ∧ x = .str sg := by
        cases hh : ys2[i]? with
        | none => rw [hh] at hx; cases hx
        | some sg => rw [hh] at hx; cases hx; exact ⟨sg, rfl, rfl⟩
      have hs1 := h3 sg (List.mem_of_getElem? hsg)
      have hs2 := h4 sg (List.mem_of_getElem? hsg)
      have hll : (cutS stem none (some (kc : Int)) ++ sg ++ cutS stem (some (kc : Int)) none).length = sz + 1 := by
        rw [Str.length_append, Str.length_append, cl1, cl2, hs1, hsl]
        omega
      have hil : i < 26 := by
        rw [List.length_map] at hi
        omega
      refine ⟨rfl, .str stem, rfl, .int (kc : Int), rfl, kc, rfl, stem, rfl, sz_of (by omega), .str sg, rfl, _, _, rfl, rfl, sz_of (by rw [cl1, hs1]; omega), .str stem, rfl, .int (kc : Int), rfl, kc, rfl, stem, rfl, sz_of (by omega), _, _, rfl, rfl, sz_of (by rw [← Str.length_append, hll]; omega), zs.map V.str, hD3, ?_, Ex.mut e8 nD3, zs ++ [cutS stem none (some (kc : Int)) ++ sg ++ cutS stem (some (kc : Int)) none], ?_, ?_, ?_⟩
      · rw [List.length_map]
        exact sz_lt (by omega)
      · rw [upd_same, List.map_append]
        rfl
      · rw [List.length_append, hzl]
        rfl
      · intro z hz'
        rcases List.mem_append.mp hz' with h | h
        · exact hz z h
        · rw [List.mem_singleton.mp h]
          exact tok_of (((hsL.cut _ _).app hs2).app (hsL.cut _ _)) (by omega) (by omega)
    · obtain ⟨e8, zs, hD3, hzl, hz⟩ := p'
      have x9 : Xp p H Hc := ((x5.trans x6).trans (x7.trans x8)).trans (Xp.ex e8)
      have P9 := (P8.up e8)
      refine q D3 zs Hc (P8.ne nD3) (P8.back ((x5.trans x6).trans (x7.trans x8)) nD3) x9 (P9.more (by omega)) hD3 ?_ hz
      rw [hzl, List.length_map, hl2]
end
end K52
namespace Es
open PySem PySem.Spec PyProof.Rows L2 Evl
theorem Pot.ts {p : Addr} {H H' : Hp} {c : Int} (h : Pot H p c) (x : Xp p H H') : Ts H H' := by
  obtain ⟨g, s, k, hp, _⟩ := h
  exact Ts.xp x hp (fun xs z => by cases z)
/-- the leaves to draw from -/
def MenuW (p : Addr) (H : Hp) (m : Addr) : Prop := m ≠ p ∧ ∃ ms : List V, H m = some (.lst ms) ∧ 1 ≤ ms.length ∧ ms.length ≤ 20 ∧ ∀ v ∈ ms, ∃ t : Tr, Pd H v t.toD ∧ t.fine ∧ t.dep = 0
theorem MenuW.xp {p m : Addr} {H H' : Hp} {c : Int} (h : MenuW p H m) (hP : Pot H p c) (e : Xp p H H') : MenuW p H' m := by
  obtain ⟨n, ms, hm, h1, h2, h3⟩ := h
  refine ⟨n, ms, e _ _ n hm, h1, h2, fun v hv => ?_⟩
  obtain ⟨t, a, b, c⟩ := h3 v hv
  exact ⟨t, a.ts (hP.ts e), b, c⟩
def costE : Nat → Int
  | 0 => 1
  | n + 1 => 3 + 3 * costE n
theorem costE_pos : ∀ n, 1 ≤ costE n
  | 0 => by decide
  | n + 1 => by
    have := costE_pos n
    show 1 ≤ 3 + 3 * costE n
    omega
def spEx (d : Nat) : Sp := fun vs H Q _ => ∃ (p m : Addr) (n : Nat) (c : Int), vs = [.ref p, .ref m, .int ((n + 1 : Nat) : Int)] ∧ n < d ∧ n ≤ 6 ∧ 0 ≤ c ∧ c + costE n ≤ 90000 ∧ Pot H p c ∧ MenuW p H m ∧
  ∀ (v : V) (t : Tr) (H' : Hp), Xp p H H' → Pot H' p (c + costE n) → Pd H' v t.toD → t.fine → t.dep ≤ n → t.nl ≤ 3 ^ n → Q v H'
theorem dep0_nl : ∀ {t : Tr}, t.dep = 0 → t.nl = 1
  | .leaf _ _, _ => rfl
  | .node _ ps, h => by
    have : Tr.deps ps + 1 = 0 := h
    omega
theorem nls_app : ∀ (ts us : List Tr), Tr.nls (ts ++ us) = Tr.nls ts + Tr.nls us
  | [], us => by
    show Tr.nls us = 0 + Tr.nls us
    omega
  | t :: r, us => by
    show t.nl + Tr.nls (r ++ us) = t.nl + Tr.nls r + Tr.nls us
    rw [nls_app r us]
    omega
theorem toDs_app : ∀ (ts us : List Tr), Tr.toDs (ts ++ us) = Tr.toDs ts ++ Tr.toDs us
  | [], us => rfl
  | t :: r, us => by
    show t.toD :: Tr.toDs (r ++ us) = t.toD :: (Tr.toDs r ++ Tr.toDs us)
    rw [toDs_app r us]
theorem fines_app : ∀ {ts us : List Tr}, Tr.fines ts → Tr.fines us → Tr.fines (ts ++ us)
  | [], _, _, k => k
  | _ :: _, _, h, k => ⟨h.1, fines_app h.2 k⟩
end Es
namespace K52
open PySem PySem.Spec PyProof.Rows L2 Evl Es
abbrev nExpr : List Str := ["_law_pot_here", "_law_words", "_law_depth", "_law_way", "_law_size", "_law_kind", "_law_turn"]
theorem scExpr : FnScope nExpr ["_law_pot_here", "_law_words", "_law_depth"] (defScope sExpr) := ⟨rfl, rfl, rfl, by decide +kernel, rfl, by decide +kernel, by decide +kernel⟩
section
variable {P : Program} {w : World} {K : PySem.W.Frag} {mg : Str → Option Value} {base : Heap}
theorem ok_expr {f fT fO : Addr} {fd fdT fdO : FuncData} (F : Fun K "_law_expr" "_law_expr" sExpr f fd) (bF : Binds K fd ["_law_pot_here", "_law_words", "_law_depth"] []) (gF : mg "_law_expr" = some (.ref f))
    (FT : Fun K "_law_take" "_law_take" sTake fT fdT) (bT : Binds K fdT ["_law_pot_here", "_law_many"] []) (gT : mg "_law_take" = some (.ref fT))
    (FO : Fun K "_law_of" "_law_of" sOf fO fdO) (bO : Binds K fdO ["_law_pot_here", "_law_some"] []) (gO : mg "_law_of" = some (.ref fO)) (ml : mg "len" = none) (mr : mg "range" = none) (mt : mg "tuple" = none) :
    ∀ d : Nat, FnOk P w K mg base CX0 (d + 3) f fd ["_law_pot_here", "_law_words", "_law_depth"] (spEx d) := by
  intro d
  induction d with
  | zero => exact ⟨fun vs H Q E ⟨_, _, _, _, _, h, _⟩ => absurd h (Nat.not_lt_zero _), fun _ _ _ _ _ _ _ _ _ _ _ _ _ ⟨_, _, _, _, _, h, _⟩ => absurd h (Nat.not_lt_zero _)⟩
  | succ d ih =>
    have G1 : FnOk P w K mg base CX0 (d + 3) fT fdT ["_law_pot_here", "_law_many"] spTake := ok_take FT
    have G3 : FnOk P w K mg base CX0 (d + 3) fO fdO ["_law_pot_here", "_law_some"] spPickL := ok_of FO FT bT gT ml
    refine F.ok scExpr (fun vs H Q E h => ?_) (fun cdv A outer s H vs Q E hr h => ?_)
    · obtain ⟨p, m, n, c, rfl, _⟩ := h
      rfl
    · obtain ⟨p, m, n, c, rfl, hnd, hn6, hc0, hc1, hP, hM, q⟩ := h
      refine ⟨_, Evl.pss_cut (ps_set (i := 3) scExpr.nd rfl (.inl rfl) (pe_ifExp (pt_cmpR op_gt (pv 2) pe_int (nomark _)) (pe_call G1 hr (by rfl) gT FT.kp bT .nil pass0 (pa_cons (pv 0) (pa_cons pe_int pa_nil))) pe_int))
        (pss_cons (ps_if (pt_cmpR op_lt (pv 3) pe_int (nomark _)) (pss_one (ps_ret (pe_call G3 hr (by rfl) gO FO.kp bO .nil pass0 (pa_cons (pv 0) (pa_cons (pv 1) pa_nil))))) pss_nil)
        (pss_cons (ps_if (pt_cmpR op_gt (pv 3) pe_int (nomark _)) (pss_one (ps_ret (pe_tup (pa_cons (pe_ix ix_list (pe_lst (pa_cons pe_str (pa_cons pe_str pa_nil))) (pe_op op_sub (pv 3) pe_int) (fun _ _ => rfl))
            (pa_cons (pe_call ih hr (by rfl) gF F.kp bF .nil pass0 (pa_cons (pv 0) (pa_cons (pv 1) (pa_cons (pe_op op_sub (pv 2) pe_int) pa_nil)))) pa_nil))))) pss_nil)
        (pss_cons (ps_set (i := 4) scExpr.nd rfl (.inl rfl) (pe_op op_add pe_int (pe_op op_fdiv (pe_call G1 hr (by rfl) gT FT.kp bT .nil pass0 (pa_cons (pv 0) (pa_cons pe_int pa_nil))) pe_int)))
        (pss_cons (ps_set (i := 5) scExpr.nd rfl (.inl rfl) (pe_ifExp (pt_cmpR op_eq (pv 3) pe_int (nomark _)) pe_str pe_str))
        (pss_one (ps_ret (pe_op op_catA (pe_tup (pa_cons (pv 5) pa_nil))
          (pe_callTy call_tuple_of (by rfl) mt (by decide +kernel) (pa_cons
            (pe_lc (own := [("_law_turn", 6)]) (g := gName 6) (tt := tYes) rfl scExpr.nd (pi_range1 (by rfl) mr (pa_cons (pv 4) pa_nil))
              (blkOk_by (N := nExpr) (sc := defScope sExpr) (own := [("_law_turn", 6)]) (by decide +kernel)) (fun _ _ _ _ _ => pg_name (i := 6) scExpr.nd rfl (Or.inl rfl)) (fun _ _ _ _ _ => pts_nil)
              (fun _ _ _ _ _ => pe_call ih hr (by rfl) gF F.kp bF .nil pass0 (pa_cons (pv 0) (pa_cons (pv 1) (pa_cons (pe_op op_sub (pv 2) pe_int) pa_nil))))) pa_nil))))))))), ?_⟩
      -- the way
      refine ⟨fun σ' H1 => ∃ r : Int, σ' = [some (.ref p), some (.ref m), some (.int ((n + 1 : Nat) : Int)), some (.int r), none, none, none] ∧ 0 ≤ r ∧ r < 9 ∧ (r < 2 ∨ 1 ≤ n) ∧ Xp p H H1 ∧ Pot H1 p (c + min (n : Int) 1), ?_, ?_⟩
      · refine ⟨.int ((n + 1 : Nat) : Int), rfl, ((n + 1 : Nat) : Int), 1, rfl, rfl, _, rfl, ite2 (fun hb => ?_) (fun hb => ?_)⟩
        · have hn : (1 : Int) < ((n + 1 : Nat) : Int) := of_decide_eq_true hb
          exact ⟨.ref p, rfl, p, 9, c, rfl, by decide, by decide, by have := costE_pos n; omega, hP, fun r H1 r0 r1 x1 P1 => ⟨r, rfl, r0, r1, .inr (by omega), x1, P1.more (by omega)⟩⟩
        · have hn : ¬ (1 : Int) < ((n + 1 : Nat) : Int) := fun z => hb (decide_eq_true z)
          exact ⟨0, rfl, by decide, by decide, .inl (by decide), Xp.refl _ _, hP.more (by omega)⟩
      rintro σ' H1 ⟨r, rfl, r0, r9, hrn, x1, P1⟩
      have hM1 := hM.xp hP x1
      have hcp := costE_pos n
      have hcn : 1 ≤ n → ∃ k, n = k + 1 ∧ costE n = 3 + 3 * costE k := fun h => by
        obtain ⟨k, rfl⟩ : ∃ k, n = k + 1 := ⟨n - 1, by omega⟩
        exact ⟨k, rfl, rfl⟩
      refine q_when (et_test (ev_op (ev_var rfl) ev_c rv_I0)) (fun hb H2 e2 => ?_) (fun hb H2 e2 => ?_)
      · -- a leaf of the menu
        have hM2 := hM1.xp P1 (Xp.ex e2)
        obtain ⟨hmp, ms, hm, m1, m2, m3⟩ := hM2
        have hmin : min (n : Int) 1 + 1 ≤ costE n := by
          cases n with
          | zero => decide
          | succ k =>
            obtain ⟨k', _, h⟩ := hcn (by omega)
            have := costE_pos k'
            omega
        refine ⟨.ref p, rfl, .ref m, rfl, p, m, c + min (n : Int) 1, ms, rfl, by omega, P1.up e2, hmp, hm, m1, by omega, fun v H3 hv x3 P3 => ?_⟩
        obtain ⟨t, t1, t2, t3⟩ := m3 v hv
        exact q v t H3 (x1.trans ((Xp.ex e2).trans x3)) (P3.more (by omega)) (t1.ts ((P1.up e2).ts x3)) t2 (by omega) (by rw [dep0_nl t3]; exact Nat.pow_pos (by decide))
      have hr2 : ¬ r < 2 := of_decide_eq_false hb
      obtain ⟨n', rfl, hcost⟩ := hcn (hrn.resolve_left hr2)
      have hcp' := costE_pos n'
      have en : (((n' + 1 + 1 : Nat) : Int)) - 1 = ((n' + 1 : Nat) : Int) := by omega
      have hmin : min ((n' + 1 : Nat) : Int) 1 = 1 := by omega
      rw [hmin] at P1
      refine q_when (et_test (ev_op (ev_var rfl) ev_c rv_I0)) (fun hb3 H3 e3 => ?_) (fun hb3 H3 e3 => ?_)
      · -- repeat, optional
        have hr6 : 6 < r := of_decide_eq_true hb3
        have e23 := e2.trans e3
        have P3 := P1.up e23
        have hM3 := hM1.xp P1 (Xp.ex e23)
        refine ⟨sz_of (by show 2 ≤ 100000; decide), fun l nl => ?_⟩
        have e4 := Ex.new (o := .lst [.str "repeat", .str "optional"]) nl
        obtain ⟨kd, hkd, hat⟩ : ∃ kd : Str, (kd = "repeat" ∨ kd = "optional") ∧ atI [V.str "repeat", V.str "optional"] (r - 7) = some (V.str kd) := by
          have : r = 7 ∨ r = 8 := by omega
          rcases this with h | h <;> subst h
          · exact ⟨_, .inl rfl, rfl⟩
          · exact ⟨_, .inr rfl, rfl⟩
        refine ⟨.int r, rfl, r, 7, rfl, rfl, l, _, r - 7, .str kd, rfl, rfl, sq_of upd_same, hat, ?_⟩
        refine ⟨.ref p, rfl, .ref m, rfl, .int ((n' + 1 + 1 : Nat) : Int), rfl, _, _, rfl, rfl, p, m, n', c + 1, congrArg (fun z => [V.ref p, V.ref m, V.int z]) en, by omega, by omega, by omega, by omega, P3.up e4, hM3.xp P3 (Xp.ex e4), fun v t H5 x5 P5 hv hf hd hnl => ?_⟩
        refine ⟨sz_of (by show 2 ≤ 100000; decide), fun a na => ?_⟩
        have e6 := Ex.new (o := .tup [.str kd, v]) na
        refine q (.ref a) (.node kd [t]) _ (x1.trans ((Xp.ex e23).trans ((Xp.ex e4).trans (x5.trans (Xp.ex e6))))) ((P5.up e6).more (by omega)) (.tup upd_same (.cons (.str _) (.cons (hv.up e6) .nil))) ⟨.inl ⟨hkd, rfl⟩, hf, trivial⟩ ?_ ?_
        · show max t.dep 0 + 1 ≤ n' + 1
          omega
        · show t.nl + 0 ≤ 3 ^ (n' + 1)
          rw [Nat.pow_succ]
          omega
      -- sequence, choice
      have e23 := e2.trans e3
      have P3 := P1.up e23
      have hM3 := hM1.xp P1 (Xp.ex e23)
      refine ⟨.ref p, rfl, p, 4, c + 1, rfl, by decide, by decide, by omega, P3, fun u H4 u0 u1 x4 P4 => ?_⟩
      refine ⟨u, 3, rfl, rfl, ⟨by omega, by omega⟩, 2, u / 3, rfl, rfl, ?_⟩
      have hM4 := hM3.xp P3 x4
      obtain ⟨sz, hsz, sz2, sz3⟩ : ∃ sz : Nat, (2 : Int) + u / 3 = (sz : Int) ∧ 2 ≤ sz ∧ sz ≤ 3 := by
        have : u = 0 ∨ u = 1 ∨ u = 2 ∨ u = 3 := by omega
        rcases this with h | h | h | h <;> subst h
        · exact ⟨2, rfl, by decide, by decide⟩
        · exact ⟨2, rfl, by decide, by decide⟩
        · exact ⟨2, rfl, by decide, by decide⟩
        · exact ⟨3, rfl, by decide, by decide⟩
      refine (show (fun z => tSeq (tAsg (tIf (tTest (tOp rEq (tVar 3) (tC (.int 6)))) (tC (.str "choice")) (tC (.str "sequence"))) (gName 5)) _ _ [some (.ref p), some (.ref m), some (.int ((n' + 1 + 1 : Nat) : Int)), some (.int r), some (.int z), none, none] H4) ((2 : Int) + u / 3) from ?_)
      show tSeq _ _ _ [some (.ref p), some (.ref m), some (.int ((n' + 1 + 1 : Nat) : Int)), some (.int r), some (.int ((2 : Int) + u / 3)), none, none] H4
      rw [hsz]
      obtain ⟨kd, hkd, hev⟩ : ∃ kd : Str, (kd = "sequence" ∨ kd = "choice") ∧ Ev (tIf (tTest (tOp rEq (tVar 3) (tC (.int 6)))) (tC (.str "choice")) (tC (.str "sequence"))) [some (.ref p), some (.ref m), some (.int ((n' + 1 + 1 : Nat) : Int)), some (.int r), some (.int (sz : Int)), none, none] H4 (.str kd) := by
        by_cases h6 : r = 6
        · exact ⟨"choice", .inr rfl, ev_if (b := true) (et_is (et_test (ev_op (ev_var rfl) ev_c (rv_eq rfl))) (decide_eq_true (by rw [h6]))) (fun _ => ev_c) (fun z => nomatch z)⟩
        · exact ⟨"sequence", .inl rfl, ev_if (b := false) (et_is (et_test (ev_op (ev_var rfl) ev_c (rv_eq rfl))) (decide_eq_false (fun z => h6 (V.int.inj z)))) (fun z => nomatch z) (fun _ => ev_c)⟩
      refine q_asg hev fun H5 e5 => ?_
      have P5 := P4.up e5
      have hM5 := hM4.xp P4 (Xp.ex e5)
      refine ⟨.str kd, rfl, sz_of (by show 1 ≤ 100000; decide), fun a na => ?_⟩
      have e6 := Ex.new (o := .tup [.str kd]) na
      have P6 := P5.up e6
      have hM6 := hM5.xp P5 (Xp.ex e6)
      have ha6 : upd H5 a (.tup [.str kd]) a = some (.tup [.str kd]) := upd_same
      generalize upd H5 a (.tup [.str kd]) = H6 at e6 P6 hM6 ha6
      refine ⟨.int (sz : Int), rfl, (sz : Int), rfl, by omega, by omega, fun D nD => lc_range (lo := 0) (n := sz) (fun i H' => Xp p H6 H' ∧ Pot H' p (c + 2 + i * costE n') ∧ ∃ (us : List V) (ts : List Tr), H' D = some (.lst us) ∧ PdAll H' us (Tr.toDs ts) ∧ Tr.fines ts ∧ Tr.deps ts ≤ n' ∧ ts.length = i ∧ Tr.nls ts ≤ i * 3 ^ n') ?_ ?_ ?_⟩
      · exact ⟨(Xp.refl _ _).mut nD, (P6.up (Ex.new nD)).more (by omega), [], [], upd_same, .nil, trivial, Nat.zero_le _, rfl, Nat.zero_le _⟩
      · intro i H' hi ⟨xi, Pi, us, ts, hD, hd, hf, hdp, hl, hnls⟩
        have hmul : (i : Int) * costE n' + costE n' = ((i : Int) + 1) * costE n' := by rw [Int.add_mul, Int.one_mul]
        have hmul3 : ((i : Int) + 1) * costE n' ≤ 3 * costE n' := Int.mul_le_mul_of_nonneg_right (by omega) (by omega)
        refine ⟨rfl, .ref p, rfl, .ref m, rfl, .int ((n' + 1 + 1 : Nat) : Int), rfl, _, _, rfl, rfl, p, m, n', c + 2 + i * costE n', congrArg (fun z => [V.ref p, V.ref m, V.int z]) en, by omega, by omega, ?_, by omega, Pi, hM6.xp P6 xi, fun v t H7 x7 P7 hv hf7 hd7 hn7 => ?_⟩
        · have : 0 ≤ (i : Int) * costE n' := Int.mul_nonneg (by omega) (by omega)
          omega
        · have hDp := P6.ne nD
          have hD7 : H7 D = some (.lst us) := x7 _ _ hDp hD
          have hul := hd.length
          rw [toDs_len] at hul
          refine ⟨us, hD7, sz_lt (by omega), (xi.trans x7).mut nD, (P7.mutL hDp).more (by rw [Int.natCast_add]; show _ ≤ c + 2 + ((i : Int) + 1) * costE n'; omega), us ++ [v], ts ++ [t], upd_same, ?_, fines_app hf ⟨hf7, trivial⟩, ?_, ?_, ?_⟩
          · rw [toDs_app]
            exact ((hd.ts (Pi.ts x7)).append (.cons hv .nil)).ts (Ts.lst hD7)
          · rw [deps_app]
            show max (Tr.deps ts) (max t.dep 0) ≤ n'
            omega
          · rw [List.length_append, hl]
            rfl
          · rw [nls_app, Nat.add_mul]
            show Tr.nls ts + (t.nl + 0) ≤ i * 3 ^ n' + 1 * 3 ^ n'
            omega
      · intro H7 ⟨x7, P7, us, ts, hD, hd, hf, hdp, hl, hnls⟩
        have hul := hd.length
        rw [toDs_len] at hul
        have hap : a ≠ p := P5.ne na
        refine ⟨D, us, rfl, .inl ⟨sq_of hD, fun b nb => ?_⟩⟩
        have e8 := Ex.new (o := .tup us) nb
        refine cat_join (e8 _ _ (x7 _ _ hap ha6)) upd_same (by show 1 + us.length ≤ 100000; omega) fun b2 H8 e9 hb2 => ?_
        have e79 := e8.trans e9
        refine q (.ref b2) (.node kd ts) H8 (x1.trans ((Xp.ex e23).trans (x4.trans ((Xp.ex (e5.trans e6)).trans (x7.trans (Xp.ex e79)))))) ((P7.up e79).more ?_) (.tup hb2 (.cons (.str _) (hd.up e79))) ⟨.inr ⟨hkd, by omega, by omega⟩, hf⟩ ?_ ?_
        · have hmul3 : (sz : Int) * costE n' ≤ 3 * costE n' := Int.mul_le_mul_of_nonneg_right (by omega) (by omega)
          omega
        · show Tr.deps ts + 1 ≤ n' + 1
          omega
        · have h3 : sz * 3 ^ n' ≤ 3 * 3 ^ n' := Nat.mul_le_mul sz3 (Nat.le_refl _)
          show Tr.nls ts ≤ 3 ^ (n' + 1)
          rw [Nat.pow_succ]
          omega
end
end K52
namespace Es
open PySem PySem.Spec PyProof.Rows L2 Evl
section
variable {K : PySem.W.Frag} {σ : L2.St} {H : Hp} {D : Ends} {tz tu : TS} {g : TG}
theorem q_forW {xs : List V} {tl : TE} (h : EvW tl σ H xs) (Pv : Addr → Nat → L2.St → Hp → Prop) (h0 : ∀ p H1, Ex H H1 → H1 p = some (.tup xs) → Pv p 0 σ H1) (hl : ∀ p i σ' H', i ≤ xs.length → Pv p i σ' H' → H' p = some (.tup xs))
    (hs : ∀ p i x σ' H', xs[i]? = some x → Pv p i σ' H' → g x σ' H' fun σ2 H2 => tu { D with nx := Pv p (i + 1), ct := Pv p (i + 1), bk := tz D } σ2 H2) (hd : ∀ p σ' H', Pv p xs.length σ' H' → tz D σ' H') : tSeq (tFor (iTup K tl) g tu) tz D σ H :=
  h H (Ex.refl H) _ fun p H1 e h1 => ⟨p, rfl, ⟨xs, st_of h1⟩, for_tup (D := { D with nx := tz D }) (Pv p) (h0 p H1 e h1) (fun i σ' H' a b => st_of (hl p i σ' H' a b)) (hs p) (hd p)⟩
theorem rv_addS {a b : Str} (h : a.length + b.length ≤ 100000) : RV (fun x y H Q => ∃ i j, x = .str i ∧ y = .str j ∧ i.length + j.length ≤ sizeLine ∧ Q (.str (i ++ j)) H) (.str a) (.str b) H (.str (a ++ b)) := fun H1 _ _ q => ⟨a, b, rfl, rfl, sz_of h, q H1 (Ex.refl _)⟩
theorem ev_joinP {ta tb : TE} {a : Str} {l : Addr} {ys : List Str} (h : Ev ta σ H (.str a)) (hl : Ev tb σ H (.ref l)) (hH : H l = some (.lst (ys.map V.str))) (hz : (ys.map (·.length)).sum + ys.length * a.length ≤ 16777216) : Ev (tM1 (rJoin K) ta tb) σ H (.str (Str.join a ys)) := by
  intro H1 e Q q
  refine h H1 e _ fun H2 e2 => ⟨⟨a, rfl⟩, hl H2 (e.trans e2) _ fun H3 e3 => ⟨a, l, ys, rfl, rfl, .inl (sq_of (((e.trans e2).trans e3) _ _ hH)), hz, ?_⟩⟩
  rw [TL.join_eq]
  exact q H3 (e2.trans e3)
end
theorem inK_mem (k q : Str) (hq : True) : decide (q ∈ inK k) = ((decide (q = "choice") && decide (k ∈ (["sequence", "choice"] : List Str))) || (decide (q = "sequence") && decide (k = "sequence"))) := by
  unfold inK
  by_cases h1 : k = "sequence"
  · subst h1
    rw [if_pos rfl]
    by_cases h2 : q = "choice"
    · subst h2
      decide +kernel
    · by_cases h3 : q = "sequence"
      · subst h3
        decide +kernel
      · rw [decide_eq_false h2, decide_eq_false h3, Bool.false_and, Bool.false_and]
        refine decide_eq_false fun z => ?_
        simp only [List.mem_cons, List.not_mem_nil, or_false] at z
        exact z.elim h3 h2
  · rw [if_neg h1, decide_eq_false h1, Bool.and_false, Bool.or_false]
    by_cases h2 : k = "choice"
    · subst h2
      rw [if_pos rfl, show decide ((("choice" : Str)) ∈ (["sequence", "choice"] : List Str)) = true from by decide +kernel, Bool.and_true]
      exact decide_eq_decide.mpr (by simp)
    · rw [if_neg h2, show decide (k ∈ (["sequence", "choice"] : List Str)) = false from decide_eq_false (fun z => by
        simp only [List.mem_cons, List.not_mem_nil, or_false] at z
        exact z.elim h1 h2), Bool.and_false]
      exact decide_eq_false (fun z => by cases z)
theorem sum_take : ∀ (ns : List Nat) (i : Nat), (ns.take i).sum ≤ ns.sum
  | [], i => by rw [List.take_nil]; exact Nat.le_refl _
  | n :: r, 0 => Nat.zero_le _
  | n :: r, i + 1 => by
    have := sum_take r i
    rw [List.take_succ_cons, List.sum_cons, List.sum_cons]
    omega
theorem mem_sum : ∀ {ns : List Nat} {n : Nat}, n ∈ ns → n ≤ ns.sum
  | x :: r, n, h => by
    rw [List.sum_cons]
    rcases List.mem_cons.mp h with e | e
    · omega
    · have := mem_sum e
      omega
end Es
namespace K52
open PySem PySem.Spec PyProof.Rows L2 Evl Es
abbrev nWrit : List Str := ["_law_expr_here", "_law_kind", "_law_parts", "_law_part", "_law_inner", "_law_is_in"]
theorem scWrit : FnScope nWrit ["_law_expr_here"] (defScope sWrit) := ⟨rfl, rfl, rfl, by decide +kernel, rfl, by decide +kernel, by decide +kernel⟩
section
variable {P : Program} {w : World} {K : PySem.W.Frag} {mg : Str → Option Value} {base : Heap}
theorem ok_writ {f : Addr} {fd : FuncData} (F : Fun K "_law_written" "_law_written" sWrit f fd) (b : Binds K fd ["_law_expr_here"] []) (g : mg "_law_written" = some (.ref f)) (mI : mg "int" = none) :
    ∀ D : Nat, FnOk P w K mg base CX0 (D + 1) f fd ["_law_expr_here"] (spShow D) := by
  intro D
  induction D with
  | zero => exact ⟨fun vs H Q E ⟨_, _, _, _, h, _⟩ => absurd h (Nat.not_lt_zero _), fun _ _ _ _ _ _ _ _ _ _ _ _ _ ⟨_, _, _, _, h, _⟩ => absurd h (Nat.not_lt_zero _)⟩
  | succ D ih =>
    refine F.ok scWrit (fun vs H Q E h => ?_) (fun cdv A outer s H vs Q E hr h => ?_)
    · obtain ⟨p, v, t, rfl, _⟩ := h
      rfl
    · obtain ⟨p, v, t, rfl, hD, hd, hf, hw, q⟩ := h
      refine ⟨_, pss_cons (ps_par rfl scWrit.nd rfl rfl (by decide) rfl rfl (i := 1) (j := 2) (pa_cons (pe_ix ix_tup (pv 0) pe_int (fun _ _ => rfl)) (pa_cons (pe_lst pa_nil) pa_nil)) (by rfl))
        (pss_cons (ps_if (pt_cmpR op_eq (pv 1) pe_str (nomark _)) (pss_one (ps_ret (pe_ix ix_tup (pv 0) pe_int (fun _ _ => rfl)))) pss_nil)
        (pss_cons (ps_if (pt_cmpR op_eq (pv 1) pe_str (nomark _)) (pss_one (ps_ret (pe_op op_add_str (pe_op op_add_str pe_str (pe_ix ix_tup (pv 0) pe_int (fun _ _ => rfl))) pe_str))) pss_nil)
        (pss_cons (ps_for PassesOwn.never rfl (pi_tup (pe_slice sl_tupA (pv 0) (po_some pe_int) po_none)) (pg_name (i := 3) scWrit.nd rfl (.inl rfl))
          (pss_cons (ps_set (i := 4) scWrit.nd rfl (.inl rfl) (pe_call ih hr (by rfl) g F.kp b .nil pass0 (pa_cons (pv 3) pa_nil)))
          (pss_cons (ps_set (i := 5) scWrit.nd rfl (.inl rfl) (pe_or (pe_and (pe_cmpR op_eq (pe_ix ix_tup (pv 3) pe_int (fun _ _ => rfl)) pe_str (nomark _)) (pe_one (pe_cmpR op_in_seq (pv 1) (pe_tup (pa_cons pe_str (pa_cons pe_str pa_nil))) (by rfl))))
            (pe_one (pe_and (pe_cmpR op_eq (pe_ix ix_tup (pv 3) pe_int (fun _ _ => rfl)) pe_str (nomark _)) (pe_one (pe_cmpR op_eq (pv 1) pe_str (nomark _)))))))
          (pss_one (ps_expr (pe_bm PySem.F.plainAttrs_list PySem.F.slot_list_append PySem.F.type_list_append mt_append (pv 2) (pa_cons (pe_ifExp (pt_val (pv 5)) (pe_op op_add_str (pe_op op_add_str pe_str (pv 4)) pe_str) (pv 4)) pa_nil)))))))
        (pss_cons (ps_if (pt_cmpR op_eq (pv 1) pe_str (nomark _)) (pss_one (ps_ret (pe_op op_add_str (pe_op op_add_str pe_str (pe_ix ix_list (pv 2) pe_int (fun _ _ => rfl))) pe_str))) pss_nil)
        (pss_one (ps_ret (pe_ifExp (pt_cmpR op_eq (pv 1) pe_str (nomark _)) (pe_op op_add_str (pe_op op_add_str pe_str (pe_ix ix_list (pv 2) pe_int (fun _ _ => rfl))) pe_str)
          (pe_join (pe_ix ix_list (pe_lst (pa_cons pe_str (pa_cons pe_str pa_nil))) (pe_callTy call_int1 (by rfl) mI (by decide +kernel) (pa_cons (pe_cmpR op_eq (pv 1) pe_str (nomark _)) pa_nil)) (fun _ _ => rfl)) (pv 2))))))))), ?_⟩
      obtain ⟨a, vs0, rfl, ha⟩ := dd_kind hd
      have hl := sh_len t hf
      refine ⟨.ref a, rfl, a, _, 0, .str t.kind, rfl, rfl, st_of ha, atI_nat (j := 0) rfl, sz_of (Nat.zero_le _), fun l nl => ⟨.str t.kind, .ref l, rfl, ?_⟩⟩
      have e1 := Ex.new (o := .lst []) nl
      have hl1 : upd H l (.lst []) l = some (.lst []) := upd_same
      generalize upd H l (.lst []) = H1 at e1 hl1
      have hlit : ∀ (z : Str) (H2 : Hp) (σ : L2.St), σ[1]? = some (some (.str t.kind)) → EvT (tTest (tOp rEq (tVar 1) (tC (.str z)))) σ H2 (decide (t.kind = z)) := fun z H2 σ hσ => et_is (et_test (ev_op (ev_var hσ) ev_c (rv_eq rfl))) (Es.eq_str _ _)
      refine q_when (hlit "token" H1 _ rfl) (fun h1 H2 e2 => ?_) (fun h1 H2 e2 => ?_)
      · have hk : t.kind = "token" := of_decide_eq_true h1
        cases t with
        | node k ps =>
          have hk' : k = "token" := hk
          subst hk'
          exact absurd hf.1 (by rintro (⟨h | h, _⟩ | ⟨h | h, _⟩) <;> exact absurd h (by decide +kernel))
        | leaf k n =>
          have hk' : k = "token" := hk
          subst hk'
          obtain ⟨a', e, ha'⟩ := dd_leaf hd
          cases e
          refine s_ret (ev_op (ev_var rfl) ev_c (rv_ixT (st_of (e2 _ _ (e1 _ _ ha'))) (atI_nat (j := 1) rfl))) fun H3 e3 => ?_
          exact q H3 ((e1.trans e2).trans e3)
      have e12 := e1.trans e2
      refine q_when (hlit "block" H2 _ rfl) (fun h2 H3 e3 => ?_) (fun h2 H3 e3 => ?_)
      · have hk : t.kind = "block" := of_decide_eq_true h2
        cases t with
        | node k ps =>
          have hk' : k = "block" := hk
          subst hk'
          exact absurd hf.1 (by rintro (⟨h | h, _⟩ | ⟨h | h, _⟩) <;> exact absurd h (by decide +kernel))
        | leaf k n =>
          have hk' : k = "block" := hk
          subst hk'
          obtain ⟨a', e, ha'⟩ := dd_leaf hd
          cases e
          have hn := tok_len hf.2
          have l1 : ((("<" : Str)) ++ n).length = 1 + n.length := by rw [Str.length_append]; rfl
          refine s_ret (ev_op (ev_op ev_c (ev_op (ev_var rfl) ev_c (rv_ixT (st_of (e3 _ _ (e12 _ _ ha'))) (atI_nat (j := 1) rfl))) (rv_addS (by show 1 + n.length ≤ 100000; omega))) ev_c (rv_addS (by rw [l1]; show 1 + n.length + 1 ≤ 100000; omega))) fun H4 e4 => ?_
          exact q H4 ((e12.trans e3).trans e4)
      have e13 := e12.trans e3
      cases t with
      | leaf k n =>
        exfalso
        have n1 : k ≠ "token" := of_decide_eq_false h1
        have n2 : k ≠ "block" := of_decide_eq_false h2
        have hm : k ∈ leafKinds := hf.1
        simp only [leafKinds, List.mem_cons, List.not_mem_nil, or_false] at hm
        exact hm.elim n1 n2
      | node k ps =>
      obtain ⟨hk, hfs⟩ := hf
      have hw' : 4 + Tr.wids ps ≤ 40000 := hw
      have hD' : Tr.deps ps + 1 < D + 1 := hD
      have hsum := shs_sum (inK k) ps hfs
      have hln := shs_len (inK k) ps
      obtain ⟨a', vs, ea, ha', hds⟩ := dd_node hd
      cases ea
      have hvl : vs.length = ps.length := by rw [hds.length, toDs_len]
      have hl3 : H3 l = some (.lst []) := e3 _ _ (e2 _ _ hl1)
      refine q_forW (xs := vs) (ew_is (ew_sl (ew_var rfl (e13 _ _ ha')) (eo_some ev_c) eo_none) (cut_n _ 1)) (fun c i σ' H' => Ex H H' ∧ H' c = some (.tup vs) ∧ H' l = some (.lst (((Tr.shs (inK k) ps).take i).map V.str)) ∧ ∃ y3 y4 y5 : Option V, σ' = [some (.ref a), some (.str k), some (.ref l), y3, y4, y5])
        (fun c H4 e4 hc => ⟨e13.trans e4, hc, by rw [List.take_zero]; exact e4 _ _ hl3, none, none, none, rfl⟩) (fun c i σ' H' _ z => z.2.1) ?_ ?_
      · rintro c i x σ' H' hx ⟨eH, hc, hlH, y3, y4, y5, rfl⟩
        obtain ⟨d, hd1, hd2⟩ := hds.get hx
        obtain ⟨q1, hq1, rfl⟩ := toDs_get hd1
        have hq1f := fines_get hfs hq1
        have hq1w := wids_get hq1
        have hq1d := deps_get hq1
        have hq1l := sh_len q1 hq1f
        obtain ⟨b1, vs1, rfl, hb1⟩ := dd_kind hd2
        refine q_asg (v := .str q1.sh) (ev_call (ea_cons (ev_var rfl) ea_nil) (fun H5 e5 Q q E => ⟨p, _, q1, rfl, by omega, hd2.up (eH.trans e5), hq1f, by omega, fun H6 e6 => q H6 e6⟩)) fun H5 e5 => ?_
        have hb5 := e5 _ _ (eH _ _ hb1)
        refine q_asg (v := .bl (decide (q1.kind ∈ inK k))) (ev_is (ev_orV (ev_andV (ev_op (ev_op (ev_var rfl) ev_c (rv_ixT (st_of hb5) (atI_nat (j := 0) rfl))) ev_c (rv_eq rfl)) (fun _ => ev_inU (ev_var rfl) (eu_tup (ea_cons ev_c (ea_cons ev_c ea_nil)) (by show 2 ≤ 100000; decide)) rfl rfl))
          (fun _ => ev_andV (ev_op (ev_op (ev_var rfl) ev_c (rv_ixT (st_of hb5) (atI_nat (j := 0) rfl))) ev_c (rv_eq rfl)) (fun _ => ev_op (ev_var rfl) ev_c (rv_eq rfl)))) ?_) fun H6 e6 => ?_
        · rw [inK_mem k q1.kind trivial, Es.eq_str, Es.eq_str, Es.eq_str]
          have e : inV (V.str k) [V.str "sequence", V.str "choice"] = decide (k ∈ (["sequence", "choice"] : List Str)) := in_strs k ["sequence", "choice"]
          rw [e]
        have hsh := shs_get (inK k) hq1
        have hil : i < ps.length := (List.getElem?_eq_some_iff.mp hq1).1
        have l1 : ((("( " : Str)) ++ q1.sh).length = 2 + q1.sh.length := by rw [Str.length_append]; rfl
        refine s_app (v := .str (if q1.kind ∈ inK k then "( " ++ q1.sh ++ " )" else q1.sh)) (e6 _ _ (e5 _ _ hlH)) (ev_var rfl) (ev_if (et_B (ev_var rfl)) (fun hb => ?_) (fun hb => ?_)) (by
          rw [List.length_map, List.length_take]
          have : ps.length ≤ Tr.wids ps := by omega
          omega) fun H7 e7 => ?_
        · rw [if_pos (of_decide_eq_true hb)]
          exact ev_op (ev_op ev_c (ev_var rfl) (rv_addS (by show 2 + q1.sh.length ≤ 100000; omega))) ev_c (rv_addS (by rw [l1]; show 2 + q1.sh.length + 2 ≤ 100000; omega))
        · rw [if_neg (of_decide_eq_false hb)]
          exact ev_var rfl
        · refine ⟨Ex.mut (((eH.trans e5).trans e6).trans e7) nl, ?_, ?_, _, _, _, rfl⟩
          · rw [upd_ne (fun z => by rw [z, hlH] at hc; cases hc)]
            exact e7 _ _ (e6 _ _ (e5 _ _ hc))
          · rw [upd_same, List.take_add_one, hsh, List.map_append]
            rfl
      · rintro c σ' H' ⟨eH, hc, hlH, y3, y4, y5, rfl⟩
        rw [hvl, List.take_of_length_le (by rw [hln]; exact Nat.le_refl _)] at hlH
        have hhead : ∀ z r, Tr.shs (inK k) ps = z :: r → z.length ≤ 40000 := fun z r e => by
          have : z.length ≤ ((Tr.shs (inK k) ps).map (·.length)).sum := mem_sum (List.mem_map.mpr ⟨z, by rw [e]; exact List.mem_cons_self .., rfl⟩)
          omega
        have hsh : (Tr.node k ps).sh = shN k (Tr.shs (inK k) ps) := rfl
        have br : ∀ (o c : Str) (z : Str) (r : List Str) (H4 : Hp) (σ : L2.St), Tr.shs (inK k) ps = z :: r → Ex H' H4 → σ[2]? = some (some (.ref l)) → o.length = 2 → c.length = 2 →
            Ev (tOp (fun x y H Q => ∃ i j, x = .str i ∧ y = .str j ∧ i.length + j.length ≤ sizeLine ∧ Q (.str (i ++ j)) H) (tOp (fun x y H Q => ∃ i j, x = .str i ∧ y = .str j ∧ i.length + j.length ≤ sizeLine ∧ Q (.str (i ++ j)) H) (tC (.str o)) (tOp (rIxL K) (tVar 2) (tC (.int 0)))) (tC (.str c))) σ H4 (.str (o ++ z ++ c)) := by
          intro o c z r H4 σ hz e4 hσ ho hcl
          have := hhead z r hz
          exact ev_op (ev_op ev_c (ev_op (ev_var hσ) ev_c (rv_ixL (sq_of (e4 _ _ hlH)) (atI_nat (j := 0) (by rw [hz]; rfl)))) (rv_addS (by omega))) ev_c (rv_addS (by rw [Str.length_append]; omega))
        have hz1 : (k = "repeat" ∨ k = "optional") → ∃ z, Tr.shs (inK k) ps = [z] := fun h => by
          have h1 : ps.length = 1 := by
            rcases hk with ⟨_, h1⟩ | ⟨h1, _⟩
            · exact h1
            · exfalso
              rcases h with e | e <;> subst e <;> rcases h1 with e | e <;> exact absurd e (by decide +kernel)
          rw [h1] at hln
          match hh : Tr.shs (inK k) ps, hln with
          | [z], _ => exact ⟨z, rfl⟩
        have hshR : ∀ z, (k = "repeat" ∨ k = "optional") → Tr.shs (inK k) ps = [z] → (Tr.node k ps).sh = openS k ++ " " ++ z ++ " " ++ closeS k := fun z h hz => by
          have n3 : ¬ k = "sequence" := by rcases h with e | e <;> subst e <;> decide +kernel
          have n4 : ¬ k = "choice" := by rcases h with e | e <;> subst e <;> decide +kernel
          rw [hsh, hz]
          unfold shN
          rw [if_neg n3, if_neg n4]
          rfl
        refine q_when (hlit "repeat" H' _ rfl) (fun h3 H4 e4 => ?_) (fun h3 H4 e4 => ?_)
        · have hk' : k = "repeat" := of_decide_eq_true h3
          obtain ⟨z, hz⟩ := hz1 (.inl hk')
          refine s_ret (br "{ " " }" z [] H4 _ hz e4 rfl (by decide +kernel) (by decide +kernel)) fun H5 e5 => ?_
          have := q H5 ((eH.trans e4).trans e5)
          rw [hshR z (.inl hk') hz] at this
          have eo : openS k = "{" := by unfold openS; rw [if_pos hk']
          have ec : closeS k = "}" := by unfold closeS; rw [if_pos hk']
          rw [eo, ec] at this
          rw [show ("{ " : Str) = "{" ++ " " from by decide +kernel, show (" }" : Str) = " " ++ "}" from by decide +kernel, ← Str.append_assoc]
          exact this
        · refine s_ret (v := .str (Tr.node k ps).sh) (ev_if (hlit "optional" H4 _ rfl) (fun h4 => ?_) (fun h4 => ?_)) fun H5 e5 => q H5 ((eH.trans e4).trans e5)
          · have hk' : k = "optional" := of_decide_eq_true h4
            obtain ⟨z, hz⟩ := hz1 (.inr hk')
            refine ev_is (br "[ " " ]" z [] H4 _ hz e4 rfl (by decide +kernel) (by decide +kernel)) ?_
            rw [hshR z (.inr hk') hz]
            have n5 : ¬ k = "repeat" := by subst hk'; decide +kernel
            have eo : openS k = "[" := by unfold openS; rw [if_neg n5]
            have ec : closeS k = "]" := by unfold closeS; rw [if_neg n5]
            rw [eo, ec, show ("[ " : Str) = "[" ++ " " from by decide +kernel, show (" ]" : Str) = " " ++ "]" from by decide +kernel, ← Str.append_assoc]
          · have n5 : ¬ k = "repeat" := of_decide_eq_false h3
            have n6 : ¬ k = "optional" := of_decide_eq_false h4
            have hk2 : k = "sequence" ∨ k = "choice" := by
              rcases hk with ⟨h | h, _⟩ | ⟨h, _⟩
              · exact absurd h n5
              · exact absurd h n6
              · exact h
            have hjoin : ∀ sep : Str, sep.length ≤ 3 → Ev (tOp (rIxL K) (tLst (tCons (tC (.str " ")) (tCons (tC (.str " | ")) tNil))) (tCB rInt1 (tCons (tOp rEq (tVar 1) (tC (.str "choice"))) tNil))) [some (.ref a), some (.str k), some (.ref l), y3, y4, y5] H4 (.str sep) →
                Ev (tM1 (rJoin K) (tOp (rIxL K) (tLst (tCons (tC (.str " ")) (tCons (tC (.str " | ")) tNil))) (tCB rInt1 (tCons (tOp rEq (tVar 1) (tC (.str "choice"))) tNil))) (tVar 2)) [some (.ref a), some (.str k), some (.ref l), y3, y4, y5] H4 (.str (Str.join sep (Tr.shs (inK k) ps))) := fun sep hs he =>
              ev_joinP he (ev_var rfl) (e4 _ _ hlH) (by
                have : (Tr.shs (inK k) ps).length * sep.length ≤ 40000 * 3 := Nat.mul_le_mul (by rw [hln]; omega) hs
                omega)
            have hsep : Ev (tOp (rIxL K) (tLst (tCons (tC (.str " ")) (tCons (tC (.str " | ")) tNil))) (tCB rInt1 (tCons (tOp rEq (tVar 1) (tC (.str "choice"))) tNil))) [some (.ref a), some (.str k), some (.ref l), y3, y4, y5] H4 (.str (if k = "choice" then " | " else " ")) := by
              refine ev_opL1 (el_lst (ea_cons ev_c (ea_cons ev_c ea_nil)) (by show 2 ≤ 100000; decide)) (y := .int (if decide (k = "choice") = true then 1 else 0)) (fun H5 e5 => ev_cb (ea_cons (ev_is (ev_op (ev_var rfl) ev_c (rv_eq rfl)) (by rw [Es.eq_str])) ea_nil) rc_intB) (fun m H5 hm e5 => rv_ixL (sq_of hm) ?_)
              by_cases hc : k = "choice"
              · rw [if_pos (decide_eq_true hc), if_pos hc]
                rfl
              · rw [if_neg (by rw [decide_eq_false hc]; decide), if_neg hc]
                rfl
            rw [hsh]
            unfold shN
            rcases hk2 with e | e
            · rw [if_pos e]
              have hsep' := hsep
              rw [if_neg (by subst e; decide +kernel)] at hsep'
              exact hjoin " " (by decide +kernel) hsep'
            · rw [if_neg (by subst e; decide +kernel), if_pos e]
              have hsep' := hsep
              rw [if_pos e] at hsep'
              exact hjoin " | " (by decide +kernel) hsep'
end
end K52
namespace K52
open PySem PySem.Spec PyProof.Rows L2 Evl Es
abbrev nBad : List Str := ["_law_ask", "_law_row", "error"]
theorem scBad : FnScope nBad ["_law_ask"] (defScope sBad) := ⟨rfl, rfl, rfl, by decide +kernel, rfl, by decide +kernel, by decide +kernel⟩
/-- the error told -/
def XBad (CB : Addr) (Q : VK) : XK := fun cls d H' => cls = .ref CB ∧ ∃ (dd : Addr) (fs : List (Str × V)) (v : V), d = some dd ∧ H' dd = some (.xd fs) ∧ fs.lookup ("row" : Str) = some v ∧ ∀ l, H' l = none → Q (.ref l) (upd H' l (.lst [v]))
/-- None, or a list of the row of the error -/
def TTbad (CB : Addr) : (XK → Hp → VK → Prop) → Hp → VK → Prop := fun tl H Q => tl (XBad CB Q) H (fun _ H' => ∃ v, (some (some V.non) : Option (Option V)) = some (some v) ∧ Q v H')
theorem takes_len {X : Cx} {W : WX} (t : Takes X W) : Takes X (fun cls d σ H => σ.length = X.N.length → W cls d σ H) := fun u s' ⟨a, B, sI, pins, σ, H, cls, d, e, I, nb, up, sky, na, os, ag, w⟩ =>
  t u s' ⟨a, B, sI, pins, σ, H, cls, d, e, I, nb, up, sky, na, os, ag, w I.len⟩
theorem bad_gives {X : Cx} {g CB fB : Addr} {dB : FuncData} {cdg : Value} {q : Str} (TB : BadC X.K X.mg CB fB dB) : LamX.GivesTo X nBad "_law_bad_source" (defScope sBad) g cdg (defBody sBad) "_law_ask" q (TTbad CB) := by
  intro f c' s H Q tl act hc h
  refine ⟨_, pss_cons (ps_set (i := 1) scBad.nd rfl (.inl rfl) pe_non)
    (pss_cons (ps_try_as (X := (cxOf C8.CX0 X.prog X.w X.K X.mg X.base nBad "_law_bad_source" (defScope sBad) g cdg X.A X.stack s H C8.E0).nox) (i := 2) (c := .ref CB)
      (tb := fun W D σ H => ∃ Ech : XK, (∀ cls d (σ' : L2.St) H', σ'.length = 3 → Ech cls d H' → W cls d σ' H') ∧ σ[0]? = some (some (.ref f)) ∧ H c' = some (LamX.CodeO c' q) ∧ tl Ech H fun _ H1 => D.nx σ H1)
      rfl rfl scBad.nd rfl rfl ⟨rfl, by decide, .inl TB.cg⟩ LamX.takes0 (fun W pn xe tk _ => ?_) (fun a oe cls d pn hz hf => pss_one (ps_set (i := 1) scBad.nd rfl (.inl rfl) (pe_lst (pa_cons (pe_xf TB.xf TB.no hz hf (pv 2)) pa_nil)))))
    (pss_one (ps_ret (pv 1)))), ?_⟩
  · refine ⟨fun pins s' σ H' D I h' => ?_⟩
    obtain ⟨Ech, hW, h1, h2, h3⟩ := h'
    exact (pss_one (ps_expr (act _ pn xe Ech _ _ (takes_len tk) (fun cls d σ' H' e l => hW cls d σ' H' l e)))).run pins s' σ H' D I ⟨h1, h2, h3⟩
  · refine ⟨XBad CB Q, fun cls d σ' H' hl ⟨ec, dd, fs, v, ed, hx, hlk, hq⟩ => ⟨true, by rw [ec]; exact TB.ex, fun _ a na => ?_, fun z => nomatch z⟩, rfl, hc, h⟩
    match σ', hl with
    | [y0, y1, y2], _ => exact ⟨.ref a, rfl, rfl, ec, dd, fs, v, ed, hx, hlk, sz_of (by show 1 ≤ 100000; decide), fun l nl => ⟨.ref l, rfl, hq l nl⟩⟩
end K52
namespace Es
open PySem PySem.Spec PyProof.Rows L2 Evl
/-- the tree of a datum -/
def unT : Nat → PyData → Tr
  | L + 1, .tuple [.str k, .str n] => .leaf k n
  | L + 1, .tuple (.str k :: ds) => .node k (ds.map (unT L))
  | _, _ => .leaf "" ""
theorem toDs_map : ∀ ps : List Tr, Tr.toDs ps = ps.map Tr.toD
  | [] => rfl
  | t :: r => by
    show t.toD :: Tr.toDs r = t.toD :: r.map Tr.toD
    rw [toDs_map r]
mutual
theorem unT_ok : ∀ (t : Tr) (L : Nat), t.dep < L → unT L t.toD = t
  | .leaf k n, 0, h => absurd h (Nat.not_lt_zero _)
  | .leaf k n, L + 1, _ => rfl
  | .node k ps, 0, h => absurd h (Nat.not_lt_zero _)
  | .node k ps, L + 1, h => by
    have h' : Tr.deps ps + 1 < L + 1 := h
    have hm := unTs_ok ps L (by omega)
    have e : unT (L + 1) (Tr.node k ps).toD = .node k ((Tr.toDs ps).map (unT L)) := by
      show unT (L + 1) (.tuple (.str k :: Tr.toDs ps)) = _
      match ps with
      | [] => rfl
      | [.leaf k' n'] => rfl
      | [.node k' ps'] => rfl
      | t :: u :: r => cases t <;> rfl
    rw [e, hm]
theorem unTs_ok : ∀ (ps : List Tr) (L : Nat), Tr.deps ps < L → (Tr.toDs ps).map (unT L) = ps
  | [], L, _ => rfl
  | t :: r, L, h => by
    have h' : max t.dep (Tr.deps r) < L := h
    show unT L t.toD :: (Tr.toDs r).map (unT L) = t :: r
    rw [unT_ok t L (by omega), unTs_ok r L (by omega)]
end
def chkB (src : Str) : Bool := okE (found src) && decide ((unT 9 (found src)).sh = src)
theorem chk_no {src : Str} (h : chkB src = false) {t : Tr} (hf : t.fine) (hd : t.dep ≤ 7) (hn : t.nl ≤ 16) (ht : found src = t.toD) (hs : t.sh = src) : False := by
  unfold chkB at h
  rw [ht, okE_tr hf hd hn, unT_ok t 9 (by omega), Bool.true_and, decide_eq_true hs] at h
  cases h
def rep (n : Nat) (z : Str) : Str := ⟨(List.replicate n z.cps).foldl (· ++ ·) #[]⟩
def wrongs : List Str := (["", " ", "a ", " a", "a  b", "a|b", "a | ", "| a", "a |", "{a}", "{ a", "a }", "{ }", "[ ]", "( )", "( a )"] : List Str) ++ (["( a b )", "( a | b )", "a ( b )", "a ( { b } )", "a | ( b c )", "{ ( a b ) }", "[ ( a | b ) ]", "A"] : List Str) ++
  (["a1", "abcdefghi", "<>", "<a", "a>", "<A>", "< a >", "<a> | <b", "a\nb", "a\n", "a b c d e f g", "()"] : List Str) ++ (["a | b | c | d | e | f | g", rep 8 "{ " ++ "a" ++ rep 8 " }", rep 99 "{ " ++ "a" ++ rep 99 " }"] : List Str) ++ (["a ] b", "( a | b"] : List Str) ++ ([Str.join " | " ["a b c d", "a b c d", "a b c d", "a b c d", "a"]] : List Str)
theorem wrongs_len : wrongs.all (fun z => decide (z.length ≤ 450) && (z.cps.toList.all fun c => decide (c < 16 ^ 8))) = true := by decide +kernel
theorem wrongs_no : wrongs.all (fun z => !chkB z) = true := by decide +kernel
end Es
namespace Es
open PySem PySem.Spec PyProof.Rows L2 Evl
/-- a def whose code object is told -/
structure FunC (K : PySem.W.Frag) (x qual : Str) (st : Stmt) (f : Addr) (fd : FuncData) (c : Addr) : Prop where
  ex : ∃ (oc : Value) (od : Option Addr) (kV doc pm : Value) (an : Option Addr) (ct : Value) (osl : Array (Option Value)), fd = PySem.W.fnOf x qual (defArgs st) (defBody st) (defScope st) .none kV doc pm an (.ref c) ct ∧ K.lookup f = some ⟨oc, od, .func fd, osl⟩ ∧ PySem.W.codeIn K (.ref c) qual = true
  kp : PySem.W.keepIn K (.ref f) = true
theorem FunC.plain {K : PySem.W.Frag} {x qual : Str} {st : Stmt} {f c : Addr} {fd : FuncData} (F : FunC K x qual st f fd c) : Fun K x qual st f fd := by
  obtain ⟨oc, od, kV, doc, pm, an, ct, osl, h⟩ := F.ex
  exact ⟨⟨oc, od, kV, doc, pm, an, .ref c, ct, osl, h⟩, F.kp⟩
theorem FunC.ok {P : Program} {w : World} {K : PySem.W.Frag} {mg : Str → Option Value} {base : Heap} {x qual : Str} {st : Stmt} {f c : Addr} {fd : FuncData} {N ps : List Str} {k : Nat} {sp : Sp} (F : FunC K x qual st f fd c) (S : FnScope N ps (defScope st)) (len : ∀ vs H Q E, sp vs H Q E → vs.length = ps.length)
    (hb : ∀ (A : Around) (outer : List Env) (s : Shared) (H : Hp) (vs : List V) (Q : VK) (E : XK), Room k (A.deeper (envOfC qual (defScope st) s.heap.objs.size f (.ref c))) → sp vs H Q E →
      ∃ t, PSs (cxOf CX0 P w K mg base N qual (defScope st) f (.ref c) A outer s H E).nox (defBody st) t ∧ t { nx := fun _ H' => Q .non H', rt := Q } (start N vs) H) : FnOk P w K mg base CX0 (k + 1) f fd ps sp := by
  obtain ⟨oc, od, kV, doc, pm, an, ct, osl, rfl, lk, hcd⟩ := F.ex
  refine fn_of lk hcd S len fun A outer s H vs Q E hr h => ?_
  obtain ⟨t, a, b⟩ := hb A outer s H vs Q E hr h
  exact ⟨t, a.nox, b⟩
section
variable {X : Cx} {CX : CXT} {k : Nat} {f : Addr} {fd : FuncData} {ps ks : List Str} {sp : Sp} {x : Str} {p pos : Pos} {kws : List Keyword} {tk : TA} {E : XK}
/-- f(k = v, ..): keywords alone, f one that may raise -/
theorem pe_callK0X {gg : List Value → List Value → List Value} {gV : List V → List V → List V} (F : FnOk X.prog X.w X.K X.mg X.base CX k f fd ps sp) (hr : Room k X.A) (hx : Passes CX X E) (hg : Gl X x) (hm : X.mg x = some (.ref f)) (hk : PySem.W.keepIn X.K (.ref f) = true)
    (hb : KBinds X.K fd ps ks gg gV) (hkw : PK X kws tk) (hall : (backToKw pos (keywordEach kws X.env)).all (·.1.isSome) = true := by rfl) (hks : (backToKw pos (keywordEach kws X.env)).filterMap (·.1) = ks := by rfl)
    (hdb : (x == ("__debug__" : Str)) = false := by decide) (hpl : ((backTo pos (starEach [] X.env)).any (·.1) || (backToKw pos (keywordEach kws X.env)).any (·.1.isNone)) = false := by rfl) :
    PE X (.Call (.Name x p) [] kws pos) (fun σ H Q => tk σ H fun zs H1 => sp (gV [] zs) H1 Q E) := by
  refine ⟨?_⟩
  intro pins s σ H Q I h
  refine wpAny_Call_Name_kw (ld_glob I hg hm ?_ hdb)
  refine PySem.W.callWith_KW0 (h₀ := X.base) I.ok.mod.kin hk hall (thn (hkw.run pos pins s σ H _ I h) ?_) hpl
  rintro ws s2 ⟨zs, H2, I2, rz, q2⟩
  refine ⟨I2.kIn, ?_⟩
  rw [hks]
  exact run_fnk F hr hb hx I2 .nil rz q2
end
open LamX
theorem ExtN.ex {H H' : Hp} (e : Ex H H') : ExtN H H' := fun b o h _ => e b o h
theorem ExtN.lst {H H' : Hp} (e : ExtN H H') {a : Addr} {xs : List V} (h : H a = some (.lst xs)) : H' a = some (.lst xs) := e a _ h (fun ps z => by cases z)
/-- what is asked of one source -/
def spSrc (T : List (Addr × Str)) : Sp := fun vs H Q _ => ∃ src : Str, vs = [.str src] ∧ SrcOk src ∧ Tabs T H ∧ ∀ H', ExtN H H' → Tabs T H' → Q (.bl true) H'
end Es
namespace K52
open PySem PySem.Spec PyProof.Rows L2 Evl Es LamX
theorem scRight : FnScope ["_law_shown", "_law_expr_here"] ["_law_shown"] (defScope sRight) := ⟨rfl, rfl, rfl, by decide +kernel, rfl, by decide +kernel, by decide +kernel⟩
section
variable {P : Program} {w : World} {K : PySem.W.Frag} {mg : Str → Option Value} {base : Heap}
theorem kb_read {f : Addr} {fd : FuncData} (F : Fun K "read_expression" "read_expression" sRead f fd) : KBinds K fd ["source"] ["source"] kwU kwV := by
  obtain ⟨oc, od, kV, dc, pm, an, cd, ct, sl, rfl, lk, hcd⟩ := F.ex
  refine ⟨fun s us ws _ hl => ?_, kw_rel⟩
  match us, ws, hl with
  | [], [_], _ => exact .of_eq rfl
theorem shaped0 : SeqAt.shaped (.list [.int 0]) = true := by decide +kernel
theorem ok_right {f fR fB' fE fW CB fBI c Pt : Addr} {fd dR dB' dE dW dBI : FuncData} {k : Nat} {T : List (Addr × Str)} (F : FunC K "_law_right" "_law_right" sRight f fd c) (TBc : BadC K mg CB fBI dBI)
    (FR : Fun K "read_expression" "read_expression" sRead fR dR) (gR : mg "read_expression" = some (.ref fR)) (GR : FnOk P w K mg base (L2.CX P w) k fR dR ["source"] (spReadX CB))
    (FB : Fun K "_law_bad_source" "_law_bad_source" sBad fB' dB') (gB : mg "_law_bad_source" = some (.ref fB'))
    (FE : Fun K "is_expression" "is_expression" sIsE fE dE) (gE : mg "is_expression" = some (.ref fE)) (GE : FnOk P w K mg base CX0 (k + 2) fE dE ["value"] spIsE)
    (FW : Fun K "_law_written" "_law_written" sWrit fW dW) (gW : mg "_law_written" = some (.ref fW)) (GW : FnOk P w K mg base CX0 (k + 2) fW dW ["_law_expr_here"] (spShow 8))
    (TB : TabB base mg c Pt) (hmT : (Pt, ("_law_right.<locals>.<lambda>" : Str)) ∈ T) (hu : ∀ p ∈ T, p.1 = Pt → p.2 = ("_law_right.<locals>.<lambda>" : Str)) : FnOk P w K mg base CX0 (k + 3) f fd ["_law_shown"] (spSrc T) := by
  have bR : Binds K dR ["source"] [] := FR.binds fun _ _ _ _ _ _ us hl => match us, hl with | [_], _ => rfl
  have bB : Binds K dB' ["_law_ask"] [] := FB.binds fun _ _ _ _ _ _ us hl => match us, hl with | [_], _ => rfl
  have bE : Binds K dE ["value"] [] := FE.binds fun _ _ _ _ _ _ us hl => match us, hl with | [_], _ => rfl
  have bW : Binds K dW ["_law_expr_here"] [] := FW.binds fun _ _ _ _ _ _ us hl => match us, hl with | [_], _ => rfl
  obtain ⟨oc, od, kV, dc, pm, an, cdB, ctB, osl, hfd, lkB, hcB⟩ := FB.ex
  subst hfd
  refine F.ok scRight (fun vs H Q E h => ?_) (fun A outer s H vs Q E hr h => ?_)
  · obtain ⟨src, rfl, _⟩ := h
    rfl
  · obtain ⟨src, rfl, hs, hT, q⟩ := h
    refine ⟨_, pss_cons (ps_if (pt_cmp (pc_notN (pe_lamcall (k := k) (T := T) (Ng := nBad) (a := "_law_ask") (c := c) (P := Pt) (TT := TTbad CB) (t := fun E => tCall (spReadX CB) [] E (tCons (tVar 0) tNil)) (by rfl) gB FB.kp lkB hcB bB scBad rfl (.inl rfl) (bad_gives TBc) TB rfl hmT hu hr (lamS_by (sc := defScope sRight) (by decide +kernel)) rfl (fun _ _ _ _ _ => rfl)
          (fun A outer s H E f c' hr' => pe_call GR hr' (by rfl) gR FR.kp bR .nil (passes_call (takes_of rfl rfl rfl rfl) (fun _ _ _ _ h => h)) (pa_cons (pv 0) pa_nil)))))
        (pss_one (ps_ret (pe_cmpR (op_eqD hr.units) (pe_lamcall (k := k) (T := T) (Ng := nBad) (a := "_law_ask") (c := c) (P := Pt) (TT := TTbad CB) (t := fun E σ H Q => tCons (tVar 0) tNil σ H fun zs H1 => spReadX CB (kwV [] zs) H1 Q E) (by rfl) gB FB.kp lkB hcB bB scBad rfl (.inl rfl) (bad_gives TBc) TB rfl hmT hu hr (lamS_by (sc := defScope sRight) (by decide +kernel)) rfl (fun _ _ _ _ _ => rfl)
          (fun A outer s H E f c' hr' => pe_callK0X GR hr' (passes_call (takes_of rfl rfl rfl rfl) (fun _ _ _ _ h => h)) (by rfl) gR FR.kp (kb_read FR) (pk_cons (pv 0) pk_nil))) (pe_lst (pa_cons pe_int pa_nil)) (nomark _)))) pss_nil)
      (pss_cons (ps_set (i := 1) scRight.nd rfl (.inl rfl) (pe_call (GR.mono (by omega : k ≤ k + 2)) hr (by rfl) gR FR.kp bR .nil passL (pa_cons (pv 0) pa_nil)))
      (pss_one (ps_ret (pe_and (pe_call GE hr (by rfl) gE FE.kp bE .nil pass0 (pa_cons (pv 1) pa_nil)) (pe_one (pe_cmpR op_eq (pe_call GW hr (by rfl) gW FW.kp bW .nil pass0 (pa_cons (pv 1) pa_nil)) (pv 0) (nomark _))))))), ?_⟩
    refine ⟨hT, fun H1 eN1 T1 => ⟨.str src, rfl, .inl ⟨src, rfl, hs, fun t ht v0 H2 e2 hv0 => ⟨.non, rfl, _, rfl, ?_⟩, fun hno dd H2 e2 hdd => ⟨rfl, dd, _, .int 0, rfl, hdd, rfl, fun l nl => ⟨_, rfl, ?_⟩⟩⟩⟩⟩
    · -- it writes an expression
      rw [show (!decide (V.non = V.non)) = false from by decide]
      have T2 := T1.ext e2
      have eN2 : ExtN H H2 := eN1.trans (ExtN.ex e2)
      refine ⟨.str src, rfl, .inl ⟨src, rfl, hs, fun u hu v H3 e3 hv => ?_, fun hno => absurd ⟨t, ht⟩ hno⟩⟩
      have hg := hu.1
      refine s_ret (v := .bl true) (ev_is (ev_andV (ev_call (z := .bl true) (ea_cons (ev_var rfl) ea_nil) (fun H4 e4 Q q E => ⟨none, v, u.toD, rfl, (hv.up e4).dd, (fit_tr hg.f hg.d hg.n).more (by decide), fun H5 e5 => by rw [okE_tr hg.f hg.d hg.n]; exact q H5 e5⟩))
        (fun _ => ev_op (ev_call (z := .str u.sh) (ea_cons (ev_var rfl) ea_nil) (fun H4 e4 Q q E => ⟨none, v, u, rfl, by have := hg.d; omega, (hv.up e4).dd, hg.f, by have := hg.wid; omega, fun H5 e5 => q H5 e5⟩)) (ev_var rfl) (rv_eq rfl))) (by rw [hu.2.2, decide_eq_true rfl]; rfl)) fun H4 e4 => ?_
      exact q H4 (eN2.trans (ExtN.ex (e3.trans e4))) (T2.ext (e3.trans e4))
    · -- it writes none
      rw [show (!decide (V.ref l = V.non)) = true from by rw [decide_eq_false (fun z => by cases z)]; rfl]
      have e2l := e2.trans (Ex.new (o := .lst [.int 0]) nl)
      have T2 : Tabs T (upd H2 l (.lst [.int 0])) := T1.ext e2l
      have eN2 : ExtN H (upd H2 l (.lst [.int 0])) := eN1.trans (ExtN.ex e2l)
      refine ⟨T2, fun H3 eN3 T3 => ⟨.str src, rfl, .inl ⟨src, rfl, hs, fun u hu => absurd ⟨u, hu⟩ hno, fun _ d2 H4 e4 hd2 => ⟨rfl, d2, _, .int 0, rfl, hd2, rfl, fun l2 nl2 => ?_⟩⟩⟩⟩
      have e5 := Ex.new (o := .lst [.int 0]) nl2
      refine ⟨sz_of (by show 1 ≤ 100000; decide), fun l3 nl3 => ⟨.list [.int 0], .list [.int 0], .lst (sq_of ((Ex.new nl3) _ _ upd_same)) (.cons (.int 0) .nil), .lst (sq_of upd_same) (.cons (.int 0) .nil), shaped0, shaped0, ?_⟩⟩
      rw [show PyData.eqv (.list [.int 0]) (.list [.int 0]) = true from by decide +kernel]
      exact q _ ((eN2.trans eN3).trans (ExtN.ex ((e4.trans e5).trans (Ex.new nl3)))) (T3.ext ((e4.trans e5).trans (Ex.new nl3)))
end
end K52
namespace Es
open PySem PySem.Spec PyProof.Rows L2 Evl
/-! sources that are not too long -/
def small (z : Str) : Prop := (z.cps.toList.all fun c => decide (c < 16 ^ 8)) = true
theorem small_app {a b : Str} : small (a ++ b) ↔ small a ∧ small b := by
  unfold small
  rw [Str.cps_append, Array.toList_append, List.all_append, Bool.and_eq_true]
theorem join_parts : ∀ ws : List Str, small (Str.join " " ws) → (∀ w ∈ ws, small w ∧ w.length ≤ (Str.join " " ws).length) ∧ (ws.map (·.length)).sum ≤ (Str.join " " ws).length ∧ ws.length ≤ (Str.join " " ws).length + 1
  | [], _ => ⟨(fun w h => by cases h), Nat.zero_le _, Nat.zero_le _⟩
  | [x], h => by
    refine ⟨fun w hw => ?_, ?_, ?_⟩
    · rw [List.mem_singleton.mp hw]
      exact ⟨h, Nat.le_refl _⟩
    · show x.length + 0 ≤ x.length
      omega
    · show 1 ≤ x.length + 1
      omega
  | x :: y :: r, h => by
    have h' : small (x ++ " " ++ Str.join " " (y :: r)) := h
    obtain ⟨h1, h2⟩ := small_app.mp h'
    obtain ⟨h3, _⟩ := small_app.mp h1
    obtain ⟨a, b, c⟩ := join_parts (y :: r) h2
    have hl : (Str.join " " (x :: y :: r)).length = x.length + 1 + (Str.join " " (y :: r)).length := by
      show (x ++ " " ++ Str.join " " (y :: r)).length = _
      rw [Str.length_append, Str.length_append]
      rfl
    rw [hl]
    refine ⟨fun w hw => ?_, ?_, ?_⟩
    · rcases List.mem_cons.mp hw with e | e
      · rw [e]
        exact ⟨h3, by omega⟩
      · have := a w e
        exact ⟨this.1, by omega⟩
    · rw [List.map_cons, List.sum_cons]
      omega
    · rw [List.length_cons]
      omega
theorem wsz_eq : ∀ ws : List Str, wsz ws = (ws.map (·.length)).sum + 32 * ws.length
  | [] => rfl
  | w :: r => by
    rw [wsz_cons, wsz_eq r, List.map_cons, List.sum_cons, List.length_cons]
    omega
theorem src_ok {src : Str} (hs : small src) (hl : src.length ≤ 450) : SrcOk src := by
  have e := StrLaws.join_split src " "
  have h : small (Str.join " " (Txt.split src " ")) := by rw [e]; exact hs
  obtain ⟨a, b, c⟩ := join_parts _ h
  rw [e] at a b c
  refine ⟨by omega, ⟨by omega, fun w hw => ?_⟩, ?_⟩
  · obtain ⟨h1, h2⟩ := a w hw
    exact ⟨by omega, h1⟩
  · rw [wsz_eq]
    omega
/-! z * n -/
def rMulN : R2 := fun x y H Q => ∃ (z : Str) (n : Int), x = .str z ∧ y = .int n ∧ 2 ≤ n ∧ n ≤ 100 ∧ 1 ≤ z.length ∧ z.length ≤ 100 ∧ Q (.str (rep n.toNat z)) H
theorem rep_len : ∀ (n : Nat) (a z : Array Nat), ((List.replicate n z).foldl (· ++ ·) a).size = a.size + n * z.size
  | 0, a, z => by
    show a.size = a.size + 0 * z.size
    omega
  | n + 1, a, z => by
    rw [List.replicate_succ, List.foldl_cons, rep_len n, Array.size_append, Nat.add_mul]
    omega
theorem op_mulN {X : Cx} : OpR X (binaryOp .Mult) rMulN := by
  intro pins s σ H x y v u Q I rx ry h
  obtain ⟨z, n, rfl, rfl, n1, n2, h1, h2, q⟩ := h
  obtain ⟨t, rfl⟩ := rx
  obtain ⟨t', rfl⟩ := ry
  have e : (n == 1 || z.length == 0) = false := by
    rw [show (n == 1) = false from beq_eq_false_iff_ne.mpr (by omega), Bool.false_or]
    exact beq_eq_false_iff_ne.mpr (by omega)
  have hm : z.length * n.toNat ≤ 100 * 100 := Nat.mul_le_mul h2 (by omega)
  refine P.mul_str ?_ (fun _ _ => ?_) (fun _ _ => ?_) ?_
  · rw [decide_eq_false (show ¬ n < -(2 ^ 63 : Int) by omega), decide_eq_false (show ¬ n ≥ 2 ^ 63 by omega)]
    rfl
  · have : (100 : Int) ≤ (2 ^ 63 - 1) / n := by
      refine (Int.le_ediv_iff_mul_le (by omega)).mpr ?_
      omega
    omega
  · refine decide_eq_false fun hh => ?_
    have : z.length * n.toNat ≤ sizeLine := sz_of (by omega)
    omega
  · rw [if_neg (by omega), e]
    refine ⟨sz_of ?_, .str (rep n.toNat z), H, I.tok _, ⟨_, rfl⟩, q⟩
    show ((List.replicate n.toNat z.cps).foldl (· ++ ·) #[]).size ≤ 100000
    rw [rep_len]
    show 0 + n.toNat * z.length ≤ 100000
    rw [Nat.mul_comm]
    omega
section
variable {σ : L2.St} {H : Hp} {te tf : TE}
theorem ev_mulN {z : Str} {n : Int} (h : Ev te σ H (.str z)) (n1 : 2 ≤ n) (n2 : n ≤ 100) (h1 : 1 ≤ z.length) (h2 : z.length ≤ 100) : Ev (tOp rMulN te (tC (.int n))) σ H (.str (rep n.toNat z)) := ev_op h ev_c (fun H1 _ _ q => ⟨z, n, rfl, rfl, n1, n2, h1, h2, q H1 (Ex.refl _)⟩)
theorem el_cat2 {xs ys : List V} (h : EvL te σ H xs) (r : EvL tf σ H ys) (hn : xs.length + ys.length ≤ 1000) : EvL (tOp rCat te tf) σ H (xs ++ ys) := fun H1 e Q q =>
  h H1 e _ fun l H2 nl e2 hl => r H2 (e.trans e2) _ fun m H3 nm e3 hm => ⟨l, m, xs, ys, rfl, rfl, e3 _ _ hl, hm, sz_of (by omega), fun a na => q a _ (fresh_back (e2.trans e3) na) ((e2.trans e3).trans (Ex.new na)) upd_same⟩
theorem el_catN {i : Nat} {l : Addr} {xs ys : List V} (hi : σ[i]? = some (some (.ref l))) (hl : H l = some (.lst xs)) (r : EvL tf σ H ys) (hn : xs.length + ys.length ≤ 1000) : EvL (tOp rCat (tVar i) tf) σ H (xs ++ ys) := fun H1 e Q q =>
  ⟨.ref l, hi, r H1 e _ fun m H3 nm e3 hm => ⟨l, m, xs, ys, rfl, rfl, e3 _ _ (e _ _ hl), hm, sz_of (by omega), fun a na => q a _ (fresh_back e3 na) (e3.trans (Ex.new na)) upd_same⟩⟩
end
theorem wrongs_ok {z : Str} (h : z ∈ wrongs) : SrcOk z ∧ ¬ ∃ t, Ans z t := by
  have h1 := List.all_eq_true.mp wrongs_len z h
  have h2 := List.all_eq_true.mp wrongs_no z h
  rw [Bool.and_eq_true] at h1
  refine ⟨src_ok h1.2 (of_decide_eq_true h1.1), fun ⟨t, hg, ht, hs⟩ => chk_no ?_ hg.f hg.d hg.n ht hs⟩
  cases hc : chkB z with
  | false => rfl
  | true =>
    rw [hc] at h2
    cases h2
def spWrong : Sp := fun vs H Q _ => vs = [] ∧ RetL (wvs wrongs) H Q
end Es
namespace K52
open PySem PySem.Spec PyProof.Rows L2 Evl Es
theorem scWrong : FnScope ["_law_got"] [] (defScope sWrong) := ⟨rfl, rfl, rfl, by decide +kernel, rfl, by decide +kernel, by decide +kernel⟩
section
variable {P : Program} {w : World} {K : PySem.W.Frag} {mg : Str → Option Value} {base : Heap}
theorem ok_wrong {f : Addr} {fd : FuncData} {k : Nat} (F : Fun K "_law_wrong" "_law_wrong" sWrong f fd) : FnOk P w K mg base CX0 (k + 1) f fd [] spWrong := by
  refine F.ok scWrong (fun vs H Q E h => ?_) (fun cdv A outer s H vs Q E hr h => ?_)
  · obtain ⟨rfl, _⟩ := h
    rfl
  · obtain ⟨rfl, q⟩ := h
    refine ⟨_, pss_cons (ps_set (i := 0) scWrong.nd rfl (.inl rfl) (pe_lst (pa_cons pe_str (pa_cons pe_str (pa_cons pe_str (pa_cons pe_str (pa_cons pe_str (pa_cons pe_str (pa_cons pe_str (pa_cons pe_str (pa_cons pe_str (pa_cons pe_str (pa_cons pe_str (pa_cons pe_str (pa_cons pe_str (pa_cons pe_str (pa_cons pe_str (pa_cons pe_str pa_nil))))))))))))))))))
      (pss_cons (ps_set (i := 0) scWrong.nd rfl (.inl rfl) (pe_op op_cat (pv 0) (pe_lst (pa_cons pe_str (pa_cons pe_str (pa_cons pe_str (pa_cons pe_str (pa_cons pe_str (pa_cons pe_str (pa_cons pe_str (pa_cons pe_str pa_nil)))))))))))
      (pss_cons (ps_set (i := 0) scWrong.nd rfl (.inl rfl) (pe_op op_cat (pv 0) (pe_lst (pa_cons pe_str (pa_cons pe_str (pa_cons pe_str (pa_cons pe_str (pa_cons pe_str (pa_cons pe_str (pa_cons pe_str (pa_cons pe_str (pa_cons pe_str (pa_cons pe_str (pa_cons pe_str (pa_cons pe_str pa_nil)))))))))))))))
      (pss_cons (ps_set (i := 0) scWrong.nd rfl (.inl rfl) (pe_op op_cat (pv 0) (pe_lst (pa_cons pe_str (pa_cons (pe_op op_add_str (pe_op op_add_str (pe_op op_mulN pe_str pe_int) pe_str) (pe_op op_mulN pe_str pe_int)) (pa_cons (pe_op op_add_str (pe_op op_add_str (pe_op op_mulN pe_str pe_int) pe_str) (pe_op op_mulN pe_str pe_int)) pa_nil))))))
      (pss_cons (ps_set (i := 0) scWrong.nd rfl (.inl rfl) (pe_op op_cat (pv 0) (pe_lst (pa_cons pe_str (pa_cons pe_str pa_nil)))))
      (pss_cons (ps_expr (pe_bm PySem.F.plainAttrs_list PySem.F.slot_list_append PySem.F.type_list_append mt_append (pv 0) (pa_cons (pe_join pe_str (pe_op op_cat (pe_op op_rep (pe_lst (pa_cons pe_str pa_nil)) pe_int) (pe_lst (pa_cons pe_str pa_nil)))) pa_nil)))
      (pss_one (ps_ret (pv 0)))))))), ?_⟩
    refine q_asgL (el_lst (ea_cons ev_c (ea_cons ev_c (ea_cons ev_c (ea_cons ev_c (ea_cons ev_c (ea_cons ev_c (ea_cons ev_c (ea_cons ev_c (ea_cons ev_c (ea_cons ev_c (ea_cons ev_c (ea_cons ev_c (ea_cons ev_c (ea_cons ev_c (ea_cons ev_c (ea_cons ev_c ea_nil)))))))))))))))) (by show 16 ≤ 100000; decide)) fun l1 H1 n1 e1 h1 => ?_
    refine q_asgL (el_catN rfl h1 (el_lst (ea_cons ev_c (ea_cons ev_c (ea_cons ev_c (ea_cons ev_c (ea_cons ev_c (ea_cons ev_c (ea_cons ev_c (ea_cons ev_c ea_nil)))))))) (by show 8 ≤ 100000; decide)) (by show 16 + 8 ≤ 1000; decide)) fun l2 H2 n2 e2 h2 => ?_
    refine q_asgL (el_catN rfl h2 (el_lst (ea_cons ev_c (ea_cons ev_c (ea_cons ev_c (ea_cons ev_c (ea_cons ev_c (ea_cons ev_c (ea_cons ev_c (ea_cons ev_c (ea_cons ev_c (ea_cons ev_c (ea_cons ev_c (ea_cons ev_c ea_nil)))))))))))) (by show 12 ≤ 100000; decide)) (by show 24 + 12 ≤ 1000; decide)) fun l3 H3 n3 e3 h3 => ?_
    refine q_asgL (el_catN rfl h3 (el_lst (ea_cons ev_c (ea_cons (ev_op (ev_op (ev_mulN (n := 8) ev_c (by decide) (by decide) (by decide +kernel) (by decide +kernel)) ev_c (rv_addS (by decide +kernel))) (ev_mulN (n := 8) ev_c (by decide) (by decide) (by decide +kernel) (by decide +kernel)) (rv_addS (by decide +kernel))) (ea_cons (ev_op (ev_op (ev_mulN (n := 99) ev_c (by decide) (by decide) (by decide +kernel) (by decide +kernel)) ev_c (rv_addS (by decide +kernel))) (ev_mulN (n := 99) ev_c (by decide) (by decide) (by decide +kernel) (by decide +kernel)) (rv_addS (by decide +kernel))) ea_nil))) (by show 3 ≤ 100000; decide)) (by show 36 + 3 ≤ 1000; decide)) fun l4 H4 n4 e4 h4 => ?_
    refine q_asgL (el_catN rfl h4 (el_lst (ea_cons ev_c (ea_cons ev_c ea_nil)) (by show 2 ≤ 100000; decide)) (by show 39 + 2 ≤ 1000; decide)) fun l5 H5 n5 e5 h5 => ?_
    refine q_app h5 (ev_var rfl) (v := .str (Str.join " | " ["a b c d", "a b c d", "a b c d", "a b c d", "a"])) (ev_join ev_c (el_cat2 (el_rep (el_lst (ea_cons ev_c ea_nil) (by show 1 ≤ 100000; decide)) ⟨by decide, by decide⟩ (by show 1 ≤ 100; decide)) (el_lst (ea_cons ev_c ea_nil) (by show 1 ≤ 100000; decide)) (by show 4 + 1 ≤ 1000; decide)) (by decide +kernel)) (by show 41 < 100000; decide) fun H6 e6 => ?_
    refine ⟨.ref l5, rfl, q l5 _ (fresh_back ((e1.trans e2).trans (e3.trans e4)) n5) (Ex.mut ((((e1.trans e2).trans (e3.trans e4)).trans e5).trans e6) (fresh_back ((e1.trans e2).trans (e3.trans e4)) n5)) upd_same⟩
end
end K52
namespace Es
open PySem PySem.Spec PyProof.Rows L2 Evl
/-! words that are short -/
theorem small_of_ok {w : Str} (h : okWd w) : small w := h.2.2
/-- a text of signs below 128 -/
def asc (z : Str) : Prop := ∀ c ∈ z.cps.toList, c < 128
theorem asc_small {z : Str} (h : asc z) : small z := List.all_eq_true.mpr fun c hc => decide_eq_true (Nat.lt_trans (h c hc) (by decide))
theorem upper_asc : ∀ (n : Nat) (z : Str), z.length = n → asc z → asc (Txt.upper z) ∧ (Txt.upper z).length = z.length
  | 0, z, h, _ => by
    have e : z = ⟨#[]⟩ := Str.ext' (Array.eq_empty_of_size_eq_zero h)
    subst e
    refine ⟨fun c hc => ?_, rfl⟩
    have : c ∈ ([] : List Nat) := hc
    cases this
  | n + 1, z, h, ha => by
    obtain ⟨c, r, e⟩ : ∃ c r, z.cps.toList = c :: r := by
      have hl : z.cps.toList.length = n + 1 := by rw [Array.length_toList]; exact h
      match hh : z.cps.toList, hl with
      | c :: r, _ => exact ⟨c, r, rfl⟩
    have ez : z = ⟨#[c]⟩ ++ ⟨r.toArray⟩ := by
      refine Str.ext' ?_
      rw [Str.cps_append]
      refine Array.toList_inj.mp ?_
      rw [e, Array.toList_append]
      rfl
    have hc : c < 128 := ha c (by rw [e]; exact List.mem_cons_self ..)
    have hr : asc ⟨r.toArray⟩ := fun x hx => ha x (by rw [e]; exact List.mem_cons_of_mem _ hx)
    have hrl : Str.length ⟨r.toArray⟩ = n := by
      have hl : z.cps.toList.length = n + 1 := by rw [Array.length_toList]; exact h
      rw [e, List.length_cons] at hl
      show (r.toArray).size = n
      rw [List.size_toArray]
      omega
    obtain ⟨a1, a2⟩ := upper_asc n ⟨r.toArray⟩ hrl hr
    rw [ez, PySem.W.KOpn.upper_app, PySem.W.KOpn.upper_one hc]
    refine ⟨fun x hx => ?_, ?_⟩
    · rw [Str.cps_append, Array.toList_append] at hx
      rcases List.mem_append.mp hx with h1 | h1
      · have h2 : x ∈ [if 97 ≤ c ∧ c ≤ 122 then c - 32 else c] := h1
        rw [List.mem_singleton.mp h2]
        split <;> omega
      · exact a1 x h1
    · rw [Str.length_append, Str.length_append, a2]
      rfl
theorem lets_asc : ∀ c ∈ abcS.cps.toList, c < 128 := by decide +kernel
theorem lit_asc : ∀ w ∈ (["(", ")", "{", "}", "[", "]", "|"] : List Str), ∀ c ∈ w.cps.toList, c < 128 := by decide +kernel
/-! what all words of a written expression keep -/
section
variable {P : Str → Prop}
theorem bar_all (hl : ∀ w ∈ (["(", ")", "{", "}", "[", "]", "|"] : List Str), P w) : ∀ {zs : List (List Str)}, (∀ z ∈ zs, ∀ w ∈ z, P w) → ∀ w ∈ barT zs, P w
  | [], _, w, hw => by cases hw
  | z :: r, h, w, hw => by
    rcases List.mem_cons.mp (show w ∈ sBar :: (z ++ barT r) from hw) with e | e
    · exact e ▸ hl sBar (by decide +kernel)
    · exact (List.mem_append.mp e).elim (h z (List.mem_cons_self ..) w) (bar_all hl (fun y hy => h y (List.mem_cons_of_mem _ hy)) w)
mutual
theorem wd_all (hl : ∀ w ∈ (["(", ")", "{", "}", "[", "]", "|"] : List Str), P w) (hn : ∀ k n, tokS n = true → P (leafS k n)) : ∀ t : Tr, t.fine → ∀ w ∈ t.wd, P w
  | .leaf k n, h, w, hw => List.mem_singleton.mp (show w ∈ [leafS k n] from hw) ▸ hn k n h.2
  | .node k ps, h, w, hw => by
    have hz := wds_all hl hn (inK k) ps h.2
    have ho : P (openS k) := by
      unfold openS
      split
      · exact hl _ (by decide +kernel)
      · exact hl _ (by decide +kernel)
    have hc : P (closeS k) := by
      unfold closeS
      split
      · exact hl _ (by decide +kernel)
      · exact hl _ (by decide +kernel)
    have hw' : w ∈ wdN k (Tr.wds (inK k) ps) := hw
    generalize Tr.wds (inK k) ps = zs at hz hw'
    unfold wdN at hw'
    split at hw'
    · obtain ⟨z, h1, h2⟩ := List.mem_flatten.mp hw'
      exact hz z h1 w h2
    · split at hw'
      · match zs, hz, hw' with
        | [], _, hw' => cases hw'
        | z :: r, hz, hw' => exact (List.mem_append.mp (show w ∈ z ++ barT r from hw')).elim (hz z (List.mem_cons_self ..) w) (bar_all hl (fun y hy => hz y (List.mem_cons_of_mem _ hy)) w)
      · rcases List.mem_cons.mp hw' with e | e
        · exact e ▸ ho
        · rcases List.mem_append.mp e with e | e
          · match zs, hz, e with
            | [], _, e => cases e
            | z :: r, hz, e => exact hz z (List.mem_cons_self ..) w e
          · exact List.mem_singleton.mp e ▸ hc
theorem wds_all (hl : ∀ w ∈ (["(", ")", "{", "}", "[", "]", "|"] : List Str), P w) (hn : ∀ k n, tokS n = true → P (leafS k n)) (ks : List Str) : ∀ ps : List Tr, Tr.fines ps → ∀ z ∈ Tr.wds ks ps, ∀ w ∈ z, P w
  | [], _, z, hz, _, _ => by cases hz
  | t :: r, h, z, hz, w, hw => by
    rcases List.mem_cons.mp (show z ∈ inBr (t.kind ∈ ks) t.wd :: Tr.wds ks r from hz) with e | e
    · rw [e] at hw
      unfold inBr at hw
      split at hw
      · rcases List.mem_cons.mp hw with e | e
        · exact e ▸ hl sPo (by decide +kernel)
        · rcases List.mem_append.mp e with e | e
          · exact wd_all hl hn t h.1 w e
          · exact List.mem_singleton.mp e ▸ hl sPc (by decide +kernel)
      · exact wd_all hl hn t h.1 w hw
    · exact wds_all hl hn ks r h.2 z e w hw
end
end
theorem wd_asc {t : Tr} (h : t.fine) : ∀ w ∈ t.wd, asc w := wd_all lit_asc (fun k n hn => by
  unfold leafS
  split
  · exact fun c hc => lets_asc c (tok_all hn c hc)
  · intro c hc
    rw [ang_cps] at hc
    rcases List.mem_cons.mp hc with e | e
    · rw [e]; decide
    · rcases List.mem_append.mp e with e | e
      · exact lets_asc c (tok_all hn c e)
      · rw [List.mem_singleton.mp e]; decide) t h
/-! how long they are together -/
def msz (ws : List Str) : Nat := (ws.map fun w => w.length + 1).sum
theorem msz_cons (w : Str) (r : List Str) : msz (w :: r) = w.length + 1 + msz r := by
  unfold msz
  rw [List.map_cons, List.sum_cons]
theorem msz_app : ∀ a b : List Str, msz (a ++ b) = msz a + msz b
  | [], b => by show msz b = 0 + msz b; omega
  | w :: r, b => by rw [List.cons_append, msz_cons, msz_cons, msz_app r b]; omega
theorem msz_take : ∀ (ws : List Str) (n : Nat), msz (ws.take n) + msz (ws.drop n) = msz ws := fun ws n => by rw [← msz_app, List.take_append_drop]
theorem msz_len : ∀ ws : List Str, ws.length ≤ msz ws
  | [] => Nat.le_refl _
  | w :: r => by
    have := msz_len r
    rw [msz_cons, List.length_cons]
    omega
theorem msz_get : ∀ {ws : List Str} {i : Nat} {w : Str}, ws[i]? = some w → msz (ws.drop (i + 1)) + (w.length + 1) = msz (ws.drop i)
  | x :: r, 0, w, h => by
    cases h
    rw [List.drop_succ_cons, List.drop_zero, List.drop_zero, msz_cons]
    omega
  | x :: r, i + 1, w, h => msz_get (ws := r) (i := i) h
theorem join_msz : ∀ ws : List Str, (Str.join " " ws).length ≤ msz ws
  | [] => Nat.le_refl _
  | [x] => by
    rw [msz_cons]
    show x.length ≤ _
    omega
  | x :: y :: r => by
    have := join_msz (y :: r)
    rw [msz_cons]
    show (x ++ " " ++ Str.join " " (y :: r)).length ≤ _
    rw [Str.length_append, Str.length_append]
    show x.length + 1 + _ ≤ _
    omega
theorem msz_join : ∀ {ws : List Str}, ws ≠ [] → msz ws = (Str.join " " ws).length + 1
  | [], h => absurd rfl h
  | [x], _ => by
    rw [msz_cons]
    show x.length + 1 + 0 = x.length + 1
    omega
  | x :: y :: r, _ => by
    have := msz_join (ws := y :: r) (by simp)
    rw [msz_cons]
    show _ = (x ++ " " ++ Str.join " " (y :: r)).length + 1
    rw [Str.length_append, Str.length_append]
    show _ = x.length + 1 + _ + 1
    omega
theorem join_small : ∀ {ws : List Str}, (∀ w ∈ ws, small w) → small (Str.join " " ws)
  | [], _ => rfl
  | [x], h => h x (List.mem_singleton.mpr rfl)
  | x :: y :: r, h => small_app.mpr ⟨small_app.mpr ⟨h x (List.mem_cons_self ..), by unfold small; decide +kernel⟩, join_small (ws := y :: r) fun w hw => h w (List.mem_cons_of_mem _ hw)⟩
def spBent : Sp := fun vs H Q _ => ∃ (p lw : Addr) (c : Int) (ws : List Str), vs = [.ref p, .ref lw] ∧ 0 ≤ c ∧ c ≤ 50000 ∧ Pot H p c ∧ lw ≠ p ∧ H lw = some (.lst (wvs ws)) ∧ ws ≠ [] ∧ (∀ w ∈ ws, w.length ≤ 10 ∧ asc w) ∧ msz ws ≤ 300 ∧
  ∀ (l : Addr) (zs : List Str) (H' : Hp), Xp p H H' → Pot H' p (c + 3) → H' l = some (.lst (wvs zs)) → (∀ z ∈ zs, small z) → msz zs ≤ 400 → Q (.ref l) H'
theorem wvs_app (a b : List Str) : wvs (a ++ b) = wvs a ++ wvs b := List.map_append
section
variable {K : PySem.W.Frag} {σ : L2.St} {H : Hp} {te : TE}
theorem el_upto {i : Nat} {l : Addr} {ws : List Str} {n : Nat} (hi : σ[i]? = some (some (.ref l))) (hl : H l = some (.lst (wvs ws))) (h : Ev te σ H (.int (n : Int))) : EvL (tSl (rSlL K) (tVar i) tNoPart (tPart te)) σ H (wvs (ws.take n)) := by
  have e : cutV (wvs ws) none (some (n : Int)) = wvs (ws.take n) := by rw [cut_0]; exact (List.map_take ..).symm
  rw [← e]
  exact el_sl (ev_var hi) eo_none (eo_some h) (sq_of hl)
theorem el_from {i : Nat} {l : Addr} {ws : List Str} {n : Nat} (hi : σ[i]? = some (some (.ref l))) (hl : H l = some (.lst (wvs ws))) (h : Ev te σ H (.int (n : Int))) : EvL (tSl (rSlL K) (tVar i) (tPart te) tNoPart) σ H (wvs (ws.drop n)) := by
  have e : cutV (wvs ws) (some (n : Int)) none = wvs (ws.drop n) := by rw [cut_n]; exact (List.map_drop ..).symm
  rw [← e]
  exact el_sl (ev_var hi) (eo_some h) eo_none (sq_of hl)
theorem el_mid {tf : TE} {i : Nat} {l : Addr} {ws : List Str} {n m : Nat} (hi : σ[i]? = some (some (.ref l))) (hl : H l = some (.lst (wvs ws))) (h : Ev te σ H (.int (n : Int))) (h2 : Ev tf σ H (.int (m : Int))) : EvL (tSl (rSlL K) (tVar i) (tPart te) (tPart tf)) σ H (wvs ((ws.drop n).take (m - n))) := by
  have e : cutV (wvs ws) (some (n : Int)) (some (m : Int)) = wvs ((ws.drop n).take (m - n)) := by
    rw [cut_nn]
    show ((ws.map V.str).drop n).take (m - n) = ((ws.drop n).take (m - n)).map V.str
    rw [List.map_take, List.map_drop]
  rw [← e]
  exact el_sl (ev_var hi) (eo_some h) (eo_some h2) (sq_of hl)
theorem el_rev {xs : List V} (h : EvL te σ H xs) : EvL (tRevL K te) σ H xs.reverse := fun H1 e Q q => h H1 e _ fun p H2 np e2 hp => ⟨p, xs, rfl, sq_of hp, fun a na => q a _ (fresh_back e2 na) (e2.trans (Ex.new na)) upd_same⟩
theorem el_isW {xs ys : List V} (h : EvL te σ H xs) (e : xs = ys) : EvL te σ H ys := e ▸ h
end
end Es
namespace Es
open PySem PySem.Spec PyProof.Rows L2 Evl
theorem cut_sub (z : Str) (lo hi : Option Int) : (∀ c ∈ (cutS z lo hi).cps.toList, c ∈ z.cps.toList) ∧ (cutS z lo hi).length ≤ z.length := by
  have e : (cutS z lo hi).cps.toList = ((z.cps.toList.drop (HT.sIx z.length 0 lo)).take (HT.sIx z.length z.length hi - HT.sIx z.length 0 lo)) := by
    unfold cutS
    rw [List.toList_toArray]
  refine ⟨fun c hc => ?_, ?_⟩
  · rw [e] at hc
    exact List.mem_of_mem_drop (List.mem_of_mem_take hc)
  · show (cutS z lo hi).cps.size ≤ z.cps.size
    rw [← Array.length_toList, ← Array.length_toList, e, List.length_take, List.length_drop]
    omega
theorem asc_app {a b : Str} (ha : asc a) (hb : asc b) : asc (a ++ b) := by
  intro c hc
  rw [Str.cps_append, Array.toList_append] at hc
  exact (List.mem_append.mp hc).elim (ha c) (hb c)
section
variable {σ : L2.St} {H : Hp} {te : TE}
theorem el_catM {i : Nat} {l : Addr} {xs ys : List V} (r : EvL te σ H xs) (hi : σ[i]? = some (some (.ref l))) (hl : H l = some (.lst ys)) (hn : xs.length + ys.length ≤ 1000) : EvL (tOp rCat te (tVar i)) σ H (xs ++ ys) := fun H1 e Q q =>
  r H1 e _ fun m H2 nm e2 hm => ⟨.ref l, hi, m, l, xs, ys, rfl, rfl, hm, e2 _ _ (e _ _ hl), sz_of (by omega), fun a na => q a _ (fresh_back e2 na) (e2.trans (Ex.new na)) upd_same⟩
end
theorem msz_rev (ws : List Str) : msz ws.reverse = msz ws := by
  induction ws with
  | nil => rfl
  | cons w r ih =>
    rw [List.reverse_cons, msz_app, ih, msz_cons, msz_cons]
    show msz r + (w.length + 1 + 0) = _
    omega
theorem msz_le : ∀ {ws : List Str} {n : Nat}, (∀ w ∈ ws, w.length ≤ n) → msz ws ≤ ws.length * (n + 1)
  | [], _, _ => Nat.zero_le _
  | w :: r, n, h => by
    have := msz_le (ws := r) fun x hx => h x (List.mem_cons_of_mem _ hx)
    have := h w (List.mem_cons_self ..)
    rw [msz_cons, List.length_cons, Nat.add_mul]
    omega
/-- the words before, others, the words after -/
theorem bent_ok {ws mid zs : List Str} {i j : Nat} (hs : ∀ w ∈ ws, small w) (hm : ∀ w ∈ mid, small w) (h1 : msz ws ≤ 300) (h2 : msz mid ≤ 90) (hij : i ≤ j) (e : zs = ws.take i ++ mid ++ ws.drop j) : (∀ z ∈ zs, small z) ∧ msz zs ≤ 400 := by
  subst e
  refine ⟨fun z hz => ?_, ?_⟩
  · rcases List.mem_append.mp hz with h | h
    · rcases List.mem_append.mp h with h | h
      · exact hs z (List.mem_of_mem_take h)
      · exact hm z h
    · exact hs z (List.mem_of_mem_drop h)
  · obtain ⟨d, rfl⟩ : ∃ d, j = i + d := ⟨j - i, by omega⟩
    have a := msz_take ws i
    have b := msz_take (ws.drop i) d
    rw [List.drop_drop] at b
    rw [msz_app, msz_app]
    omega
end Es
namespace K52
open PySem PySem.Spec PyProof.Rows L2 Evl Es
abbrev nBent : List Str := ["_law_pot_here", "_law_words", "_law_way", "_law_spot", "_law_own", "_law_other"]
theorem scBent : FnScope nBent ["_law_pot_here", "_law_words"] (defScope sBent) := ⟨rfl, rfl, rfl, by decide +kernel, rfl, by decide +kernel, by decide +kernel⟩
def oddW : List Str := ["(", ")", "{", "}", "[", "]", "|", "", "a", "<a>", "a\n"]
theorem oddW_ok : (oddW.all fun w => decide (w.length ≤ 12) && w.cps.toList.all fun c => decide (c < 16 ^ 8)) = true := by decide +kernel
section
variable {P : Program} {w : World} {K : PySem.W.Frag} {mg : Str → Option Value} {base : Heap}
theorem ok_bent {f fT fO : Addr} {fd fdT fdO : FuncData} {k : Nat} (F : Fun K "_law_bent" "_law_bent" sBent f fd) (FT : Fun K "_law_take" "_law_take" sTake fT fdT) (bT : Binds K fdT ["_law_pot_here", "_law_many"] []) (gT : mg "_law_take" = some (.ref fT))
    (FO : Fun K "_law_of" "_law_of" sOf fO fdO) (bO : Binds K fdO ["_law_pot_here", "_law_some"] []) (gO : mg "_law_of" = some (.ref fO)) (ml : mg "len" = none) :
    FnOk P w K mg base CX0 (k + 3) f fd ["_law_pot_here", "_law_words"] spBent := by
  have G1 : FnOk P w K mg base CX0 (k + 2) fT fdT ["_law_pot_here", "_law_many"] spTake := ok_take FT
  have G3 : FnOk P w K mg base CX0 (k + 2) fO fdO ["_law_pot_here", "_law_some"] spPickL := ok_of FO FT bT gT ml
  refine F.ok scBent (fun vs H Q E h => ?_) (fun cdv A outer s H vs Q E hr h => ?_)
  · obtain ⟨p, lw, c, ws, rfl, _⟩ := h
    rfl
  · obtain ⟨p, lw, c, ws, rfl, hc0, hc1, hP, hne, hlw, hws, hok, hsz, q⟩ := h
    refine ⟨_, pss_cons (ps_par rfl scBent.nd rfl rfl (by decide) rfl rfl (i := 2) (j := 3) (pa_cons (pe_call G1 hr (by rfl) gT FT.kp bT .nil pass0 (pa_cons (pv 0) (pa_cons pe_int pa_nil))) (pa_cons (pe_call G1 hr (by rfl) gT FT.kp bT .nil pass0 (pa_cons (pv 0) (pa_cons (pe_callB call_len_seq (by rfl) ml PySem.boot_len (pa_cons (pv 1) pa_nil)) pa_nil))) pa_nil)) (by rfl))
      (pss_cons (ps_set (i := 4) scBent.nd rfl (.inl rfl) (pe_ix ix_list (pv 1) (pv 3) (fun _ _ => rfl)))
      (pss_cons (ps_if (pt_cmpR op_eq (pv 2) pe_int (nomark _)) (pss_one (ps_ret (pe_op op_cat (pe_slice sl_list (pv 1) po_none (po_some (pv 3))) (pe_slice sl_list (pv 1) (po_some (pe_op op_add (pv 3) pe_int)) po_none)))) pss_nil)
      (pss_cons (ps_if (pt_cmpR op_eq (pv 2) pe_int (nomark _)) (pss_one (ps_ret (pe_op op_cat (pe_op op_cat (pe_slice sl_list (pv 1) po_none (po_some (pv 3))) (pe_lst (pa_cons (pv 4) (pa_cons (pv 4) pa_nil)))) (pe_slice sl_list (pv 1) (po_some (pe_op op_add (pv 3) pe_int)) po_none)))) pss_nil)
      (pss_cons (ps_if (pt_cmpR op_eq (pv 2) pe_int (nomark _)) (pss_one (ps_ret (pe_op op_cat (pe_op op_cat (pe_slice sl_list (pv 1) po_none (po_some (pv 3))) (pe_revL (pe_slice sl_list (pv 1) (po_some (pv 3)) (po_some (pe_op op_add (pv 3) pe_int))))) (pe_slice sl_list (pv 1) (po_some (pe_op op_add (pv 3) pe_int)) po_none)))) pss_nil)
      (pss_cons (ps_if (pt_cmpR op_eq (pv 2) pe_int (nomark _)) (pss_one (ps_ret (pe_op op_cat (pe_op op_cat (pe_slice sl_list (pv 1) po_none (po_some (pv 3))) (pe_lst (pa_cons (pe_call G3 hr (by rfl) gO FO.kp bO .nil pass0 (pa_cons (pv 0) (pa_cons (pe_lst (pa_cons pe_str (pa_cons pe_str (pa_cons pe_str (pa_cons pe_str (pa_cons pe_str (pa_cons pe_str (pa_cons pe_str (pa_cons pe_str (pa_cons pe_str (pa_cons pe_str (pa_cons pe_str pa_nil)))))))))))) pa_nil))) pa_nil))) (pe_slice sl_list (pv 1) (po_some (pv 3)) po_none)))) pss_nil)
      (pss_cons (ps_if (pt_cmpR op_eq (pv 2) pe_int (nomark _)) (pss_one (ps_ret (pe_op op_cat (pe_op op_cat (pe_slice sl_list (pv 1) po_none (po_some (pv 3))) (pe_lst (pa_cons pe_str (pa_cons (pv 4) (pa_cons pe_str pa_nil))))) (pe_slice sl_list (pv 1) (po_some (pe_op op_add (pv 3) pe_int)) po_none)))) pss_nil)
      (pss_cons (ps_if (pt_cmpR op_eq (pv 2) pe_int (nomark _)) (pss_one (ps_ret (pe_op op_cat (pe_op op_cat (pe_lst (pa_cons pe_str pa_nil)) (pv 1)) (pe_lst (pa_cons pe_str pa_nil))))) pss_nil)
      (pss_cons (ps_set (i := 5) scBent.nd rfl (.inl rfl) (pe_call G3 hr (by rfl) gO FO.kp bO .nil pass0 (pa_cons (pv 0) (pa_cons (pe_lst (pa_cons (pe_op op_add_str (pv 4) pe_str) (pa_cons (pe_slice sl_str (pv 4) (po_some pe_int) po_none) (pa_cons (pe_upper (pv 4)) (pa_cons (pe_op op_add_str (pe_op op_add_str pe_str (pv 4)) pe_str) (pa_cons (pe_op op_add_str (pv 4) pe_str) pa_nil)))))) pa_nil))))
      (pss_one (ps_ret (pe_op op_cat (pe_op op_cat (pe_slice sl_list (pv 1) po_none (po_some (pv 3))) (pe_lst (pa_cons (pv 5) pa_nil))) (pe_slice sl_list (pv 1) (po_some (pe_op op_add (pv 3) pe_int)) po_none)))))))))))), ?_⟩
    have hsm : ∀ x ∈ ws, small x := fun x hx => asc_small (hok x hx).2
    have hwl : 1 ≤ ws.length := List.length_pos_iff.mpr hws
    have hwm := msz_len ws
    refine ⟨.ref p, rfl, p, 7, c, rfl, by decide, by decide, by omega, hP, fun wy H1 w0 w1 x1 P1 => ?_⟩
    refine ⟨.ref p, rfl, .ref lw, rfl, lw, wvs ws, rfl, .inl (sq_of (x1 _ _ hne hlw)), p, _, c + 1, rfl, ?_, ?_, by omega, P1, fun sp H2 s0 s1 x2 P2 => ?_⟩
    · unfold wvs; rw [List.length_map]; omega
    · unfold wvs; rw [List.length_map]; omega
    unfold wvs at s1
    rw [List.length_map] at s1
    obtain ⟨i, rfl, hi⟩ : ∃ i : Nat, sp = (i : Int) ∧ i < ws.length := ⟨sp.toNat, by omega, by omega⟩
    refine ⟨_, _, rfl, ?_⟩
    have x3 := x1.trans x2
    have P3 : Pot H2 p (c + 2) := P2.more (by omega)
    generalize H2 = H3 at x3 P3
    have hl3 : H3 lw = some (.lst (wvs ws)) := x3 _ _ hne hlw
    obtain ⟨o, hoi⟩ : ∃ o, ws[i]? = some o := ⟨_, List.getElem?_eq_getElem hi⟩
    obtain ⟨ho1, ho2⟩ := hok o (List.mem_of_getElem? hoi)
    refine q_asg (v := .str o) (ev_op (ev_var rfl) (ev_var rfl) (rv_ixL (sq_of hl3) (atI_nat (by unfold wvs; rw [List.getElem?_map, hoi]; rfl)))) fun H4 e4 => ?_
    have x4 := x3.trans (Xp.ex e4)
    have P4 := P3.up e4
    have hl4 := e4 _ _ hl3
    have lz : ∀ zs : List Str, (wvs zs).length = zs.length := fun zs => List.length_map ..
    have eu : ∀ {Ha : Hp} {y2 y5 : Option V}, Xp p H4 Ha → EvL (tSl (rSlL K) (tVar 1) tNoPart (tPart (tVar 3))) [some (.ref p), some (.ref lw), y2, some (.int (i : Int)), some (.str o), y5] Ha (wvs (ws.take i)) := fun e => el_upto rfl (e _ _ hne hl4) (ev_var rfl)
    have ef : ∀ {Ha : Hp} {y2 y5 : Option V}, Xp p H4 Ha → EvL (tSl (rSlL K) (tVar 1) (tPart (tOp (rI0 fun i j => .int (i + j)) (tVar 3) (tC (.int 1)))) tNoPart) [some (.ref p), some (.ref lw), y2, some (.int (i : Int)), some (.str o), y5] Ha (wvs (ws.drop (i + 1))) := fun e => el_from rfl (e _ _ hne hl4) (ev_op (ev_var rfl) ev_c rv_I0)
    have lt : (ws.take i).length ≤ 300 := by rw [List.length_take]; omega
    have ld : ∀ j, (ws.drop j).length ≤ 300 := fun j => by rw [List.length_drop]; omega
    have hos : small o := asc_small ho2
    have hP1 : small "(" := by unfold small; decide +kernel
    have hP2 : small ")" := by unfold small; decide +kernel
    -- what comes out is a list of short words
    have fin : ∀ {te : TE} {D : Ends} {σ : L2.St} {Ha : Hp} {zs : List Str}, D.rt = Q → Xp p H4 Ha → Pot Ha p (c + 3) → EvL te σ Ha (wvs zs) → (∀ z ∈ zs, small z) ∧ msz zs ≤ 400 → tRet te D σ Ha := fun {te D σ Ha zs} hD e hp hE hz =>
      s_retL hE fun l Hb nl eb hl => by rw [hD]; exact q l zs Hb (x4.trans (e.trans (Xp.ex eb))) (hp.up eb) hl hz.1 hz.2
    have mid : ∀ {ta tb tc : TE} {σ : L2.St} {Ha : Hp} {xs ys zs : List Str}, EvL ta σ Ha (wvs xs) → EvL tb σ Ha (wvs ys) → EvL tc σ Ha (wvs zs) → xs.length ≤ 300 → ys.length ≤ 20 → zs.length ≤ 300 → EvL (tOp rCat (tOp rCat ta tb) tc) σ Ha (wvs (xs ++ ys ++ zs)) := fun {ta tb tc σ Ha xs ys zs} h1 h2 h3 l1 l2 l3 =>
      el_isW (el_cat2 (el_cat2 h1 h2 (by rw [lz, lz]; omega)) h3 (by rw [List.length_append, lz, lz, lz]; omega)) (by rw [wvs_app, wvs_app])
    have one : ∀ {z : Str}, small z → z.length ≤ 20 → (∀ x ∈ [z], small x) ∧ msz [z] ≤ 90 := fun {z} h1 h2 => ⟨fun x hx => List.mem_singleton.mp hx ▸ h1, by rw [msz_cons]; show z.length + 1 + 0 ≤ 90; omega⟩
    refine q_when (et_test (ev_op (ev_var rfl) ev_c (rv_eq rfl))) (fun hb H5 e5 => ?_) (fun hb H5 e5 => ?_)
    · exact fin (zs := ws.take i ++ ws.drop (i + 1)) rfl (Xp.ex e5) ((P4.up e5).more (by omega)) (el_isW (el_cat2 (eu (Xp.ex e5)) (ef (Xp.ex e5)) (by rw [lz, lz]; have := ld (i + 1); omega)) (wvs_app _ _).symm) (bent_ok (mid := []) (i := i) (j := i + 1) hsm (fun _ z => nomatch z) hsz (by decide) (by omega) (by rw [List.append_nil]))
    refine q_when (et_test (ev_op (ev_var rfl) ev_c (rv_eq rfl))) (fun hb H6 e6 => ?_) (fun hb H6 e6 => ?_)
    · have e := e5.trans e6
      exact fin (zs := ws.take i ++ [o, o] ++ ws.drop (i + 1)) rfl (Xp.ex e) ((P4.up e).more (by omega)) (mid (ys := [o, o]) (eu (Xp.ex e)) (el_lst (ea_cons (ev_var rfl) (ea_cons (ev_var rfl) ea_nil)) (by show 2 ≤ 100000; decide)) (ef (Xp.ex e)) lt (by show 2 ≤ 20; decide) (ld _))
        (bent_ok (i := i) hsm (fun x hx => by rcases List.mem_cons.mp hx with h | h; exact h ▸ hos; exact List.mem_singleton.mp h ▸ hos) hsz (by rw [msz_cons, msz_cons]; show o.length + 1 + (o.length + 1 + 0) ≤ 90; omega) (by omega) rfl)
    refine q_when (et_test (ev_op (ev_var rfl) ev_c (rv_eq rfl))) (fun hb H7 e7 => ?_) (fun hb H7 e7 => ?_)
    · have e := (e5.trans e6).trans e7
      have hm : EvL (tSl (rSlL K) (tVar 1) (tPart (tVar 3)) (tPart (tOp (rI0 fun i j => .int (i + j)) (tVar 3) (tC (.int 2))))) [some (.ref p), some (.ref lw), some (.int wy), some (.int (i : Int)), some (.str o), none] H7 (wvs ((ws.drop i).take 2)) := by
        have h := el_mid (K := K) (σ := [some (.ref p), some (.ref lw), some (.int wy), some (.int (i : Int)), some (.str o), none]) (i := 1) (n := i) (m := i + 2) (te := tVar 3) (tf := tOp (rI0 fun i j => .int (i + j)) (tVar 3) (tC (.int 2))) rfl ((Xp.ex e) _ _ hne hl4) (ev_var rfl) (ev_op (ev_var rfl) ev_c rv_I0)
        rw [show i + 2 - i = 2 by omega] at h
        exact h
      exact fin (zs := ws.take i ++ ((ws.drop i).take 2).reverse ++ ws.drop (i + 2)) rfl (Xp.ex e) ((P4.up e).more (by omega)) (mid (eu (Xp.ex e)) (el_isW (el_rev hm) (by unfold wvs; rw [List.map_reverse])) (el_from rfl ((Xp.ex e) _ _ hne hl4) (ev_op (ev_var rfl) ev_c rv_I0)) lt (by rw [List.length_reverse, List.length_take]; omega) (ld _))
        (bent_ok (i := i) hsm (fun x hx => hsm x (List.mem_of_mem_drop (List.mem_of_mem_take (List.mem_reverse.mp hx)))) hsz (by
          rw [msz_rev]
          have := msz_le (ws := (ws.drop i).take 2) (n := 10) fun x hx => (hok x (List.mem_of_mem_drop (List.mem_of_mem_take hx))).1
          rw [List.length_take] at this
          omega) (by omega) rfl)
    refine q_when (et_test (ev_op (ev_var rfl) ev_c (rv_eq rfl))) (fun hb H8 e8 => ?_) (fun hb H8 e8 => ?_)
    · have e := ((e5.trans e6).trans e7).trans e8
      refine (eu (y2 := some (.int wy)) (y5 := none) (Xp.ex e)) H8 (Ex.refl _) _ fun l1 H9 n9 e9 h9 => ?_
      have ee := e.trans e9
      refine ⟨.ref p, rfl, (el_lst (H := H9) (σ := [some (.ref p), some (.ref lw), some (.int wy), some (.int (i : Int)), some (.str o), none]) (vs := wvs oddW) (ea_cons ev_c (ea_cons ev_c (ea_cons ev_c (ea_cons ev_c (ea_cons ev_c (ea_cons ev_c (ea_cons ev_c (ea_cons ev_c (ea_cons ev_c (ea_cons ev_c (ea_cons ev_c ea_nil))))))))))) (by show 11 ≤ 100000; decide)) H9 (Ex.refl _) _ fun l2 H10 n10 e10 h10 => ?_⟩
      have P10 := P4.up (ee.trans e10)
      refine ⟨p, l2, c + 2, _, rfl, by omega, P10, ((P4.up ee).ne n10), h10, by show 1 ≤ 11; decide, by show 11 ≤ 1000; decide, fun v H11 hv x11 P11 => ?_⟩
      obtain ⟨z, hz, rfl⟩ := List.mem_map.mp hv
      have hzo := List.all_eq_true.mp oddW_ok z hz
      rw [Bool.and_eq_true] at hzo
      refine ⟨sz_of (by show 1 ≤ 100000; decide), fun l3 n3 => ?_⟩
      have e12 := Ex.new (o := .lst [.str z]) n3
      have P12 := P11.up e12
      have l1p : l1 ≠ p := (P4.up e).ne n9
      refine ⟨l1, l3, wvs (ws.take i), [.str z], rfl, rfl, e12 _ _ (x11 _ _ l1p (e10 _ _ h9)), upd_same, sz_of (by rw [lz]; show _ + 1 ≤ 100000; omega), fun l4 n4 => ?_⟩
      have e13 := Ex.new (o := .lst (wvs (ws.take i) ++ [.str z])) n4
      have xx : Xp p H4 (upd (upd H11 l3 (.lst [.str z])) l4 (.lst (wvs (ws.take i) ++ [.str z]))) := (Xp.ex (ee.trans e10)).trans (x11.trans (Xp.ex (e12.trans e13)))
      have hl4' : upd (upd H11 l3 (.lst [.str z])) l4 (.lst (wvs (ws.take i) ++ [.str z])) l4 = some (.lst (wvs (ws.take i) ++ [.str z])) := upd_same
      have P13 := P12.up e13
      generalize upd (upd H11 l3 (.lst [.str z])) l4 (.lst (wvs (ws.take i) ++ [.str z])) = H13 at xx hl4' P13
      refine (el_from (K := K) (H := H13) (σ := [some (.ref p), some (.ref lw), some (.int wy), some (.int (i : Int)), some (.str o), none]) (i := 1) (te := tVar 3) (n := i) rfl (xx _ _ hne hl4) (ev_var rfl)) H13 (Ex.refl _) _ fun l5 H14 n14 e14 h14 => ?_
      refine ⟨l4, l5, _, _, rfl, rfl, e14 _ _ hl4', h14, sz_of (by rw [List.length_append, lz, lz]; have := ld i; show _ + 1 + _ ≤ 100000; omega), fun l6 n6 => ?_⟩
      have hfin := bent_ok (ws := ws) (mid := [z]) (i := i) (j := i) hsm (one (z := z) hzo.2 (by have := of_decide_eq_true hzo.1; omega)).1 hsz (one (z := z) hzo.2 (by have := of_decide_eq_true hzo.1; omega)).2 (by omega) rfl
      have e15 := Ex.new (o := .lst (wvs (ws.take i) ++ [.str z] ++ wvs (ws.drop i))) n6
      exact q l6 _ _ (x4.trans (xx.trans (Xp.ex (e14.trans e15)))) ((P13.up (e14.trans e15)).more (by omega)) (by rw [upd_same, wvs_app, wvs_app]; rfl) hfin.1 hfin.2
    refine q_when (et_test (ev_op (ev_var rfl) ev_c (rv_eq rfl))) (fun hb H9 e9 => ?_) (fun hb H9 e9 => ?_)
    · have e := (((e5.trans e6).trans e7).trans e8).trans e9
      exact fin (zs := ws.take i ++ ([("(" : Str), o, ")"] : List Str) ++ ws.drop (i + 1)) rfl (Xp.ex e) ((P4.up e).more (by omega)) (mid (ys := [("(" : Str), o, ")"]) (eu (Xp.ex e)) (el_lst (ea_cons ev_c (ea_cons (ev_var rfl) (ea_cons ev_c ea_nil))) (by show 3 ≤ 100000; decide)) (ef (Xp.ex e)) lt (by show 3 ≤ 20; decide) (ld _))
        (bent_ok (i := i) hsm (fun x hx => by
          rcases List.mem_cons.mp hx with h | h
          · exact h ▸ hP1
          · rcases List.mem_cons.mp h with h | h
            · exact h ▸ hos
            · exact List.mem_singleton.mp h ▸ hP2) hsz (by rw [msz_cons, msz_cons, msz_cons]; show 1 + 1 + (o.length + 1 + (1 + 1 + 0)) ≤ 90; omega) (by omega) rfl)
    refine q_when (et_test (ev_op (ev_var rfl) ev_c (rv_eq rfl))) (fun hb H10 e10 => ?_) (fun hb H10 e10 => ?_)
    · have e := ((((e5.trans e6).trans e7).trans e8).trans e9).trans e10
      have hwl3 : ws.length ≤ 300 := by omega
      refine fin (zs := ([("(" : Str)] : List Str) ++ ws ++ ([(")" : Str)] : List Str)) rfl (Xp.ex e) ((P4.up e).more (by omega)) (el_isW (xs := wvs [("(" : Str)] ++ wvs ws ++ wvs [(")" : Str)]) (el_cat2 (el_catM (el_lst (ea_cons ev_c ea_nil) (by show 1 ≤ 100000; decide)) rfl (e _ _ hl4) (by rw [lz, lz]; show 1 + _ ≤ 1000; omega)) (el_lst (ea_cons ev_c ea_nil) (by show 1 ≤ 100000; decide)) (by rw [List.length_append, lz, lz, lz]; show 1 + _ + 1 ≤ 1000; omega)) (by rw [wvs_app, wvs_app])) ⟨fun z hz => ?_, ?_⟩
      · rcases List.mem_append.mp hz with h | h
        · rcases List.mem_append.mp h with h | h
          · exact List.mem_singleton.mp h ▸ hP1
          · exact hsm z h
        · exact List.mem_singleton.mp h ▸ hP2
      · rw [msz_app, msz_app]
        show 1 + 1 + 0 + msz ws + (1 + 1 + 0) ≤ 400
        omega
    have e := ((((e5.trans e6).trans e7).trans e8).trans e9).trans e10
    -- a word otherwise
    obtain ⟨ua, ul⟩ := upper_asc _ o rfl ho2
    have cs := cut_sub o (some 1) none
    have evc : Ev (tSl rSlS (tVar 4) (tPart (tC (.int 1))) tNoPart) [some (.ref p), some (.ref lw), some (.int wy), some (.int (i : Int)), some (.str o), none] H10 (.str (cutS o (some 1) none)) := fun H1 _ Q q => ⟨.str o, rfl, 1, rfl, o, rfl, sz_of (by omega), q H1 (Ex.refl _)⟩
    have evu : Ev (tM0 (fun x xs H Q => ∃ a, x = .str a ∧ xs = [] ∧ a.length ≤ 5592405 ∧ Q (.str (Txt.upper a)) H) (tVar 4)) [some (.ref p), some (.ref lw), some (.int wy), some (.int (i : Int)), some (.str o), none] H10 (.str (Txt.upper o)) := fun H1 _ Q q => ⟨.str o, rfl, ⟨o, rfl⟩, o, rfl, rfl, by omega, q H1 (Ex.refl _)⟩
    have l5 := el_lst (ea_cons (ev_op (ev_var (i := 4) rfl) ev_c (rv_addS (a := o) (b := "a") (by show o.length + 1 ≤ 100000; omega)))
        (ea_cons evc (ea_cons evu
        (ea_cons (ev_op (ev_op ev_c (ev_var (i := 4) rfl) (rv_addS (a := "<") (b := o) (by show 1 + o.length ≤ 100000; omega))) ev_c (rv_addS (b := ">") (by rw [Str.length_append]; show 1 + o.length + 1 ≤ 100000; omega)))
        (ea_cons (ev_op (ev_var (i := 4) rfl) ev_c (rv_addS (a := o) (b := " ") (by show o.length + 1 ≤ 100000; omega))) ea_nil))))) (by show 5 ≤ 100000; decide)
    refine ⟨.ref p, rfl, l5 H10 (Ex.refl _) _ fun l H11 nl e11 hl => ?_⟩
    refine ⟨p, l, c + 2, _, rfl, by omega, P4.up (e.trans e11), (P4.up e).ne nl, hl, by show 1 ≤ 5; decide, by show 5 ≤ 1000; decide, fun v H12 hv x12 P12 => ?_⟩
    obtain ⟨z, hz, rfl⟩ := List.mem_map.mp (show v ∈ wvs [o ++ "a", cutS o (some 1) none, Txt.upper o, ("<" : Str) ++ o ++ ">", o ++ " "] from hv)
    have hzz : small z ∧ z.length ≤ 20 := by
      have hA : asc "a" := by unfold asc; decide +kernel
      have hL : asc "<" := by unfold asc; decide +kernel
      have hG : asc ">" := by unfold asc; decide +kernel
      have hS : asc " " := by unfold asc; decide +kernel
      simp only [List.mem_cons, List.not_mem_nil, or_false] at hz
      rcases hz with h | h | h | h | h <;> rw [h]
      · exact ⟨asc_small (asc_app ho2 hA), by rw [Str.length_append]; show o.length + 1 ≤ 20; omega⟩
      · exact ⟨asc_small fun c hc => ho2 c (cs.1 c hc), by have := cs.2; omega⟩
      · exact ⟨asc_small ua, by omega⟩
      · exact ⟨asc_small (asc_app (asc_app hL ho2) hG), by rw [Str.length_append, Str.length_append]; show 1 + o.length + 1 ≤ 20; omega⟩
      · exact ⟨asc_small (asc_app ho2 hS), by rw [Str.length_append]; show o.length + 1 ≤ 20; omega⟩
    have xx : Xp p H4 H12 := (Xp.ex (e.trans e11)).trans x12
    exact fin (zs := ws.take i ++ [z] ++ ws.drop (i + 1)) rfl xx (P12.more (by omega)) (mid (ys := [z]) (eu xx) (el_lst (ea_cons (ev_var rfl) ea_nil) (by show 1 ≤ 100000; decide)) (ef xx) lt (by show 1 ≤ 20; decide) (ld _)) (bent_ok (i := i) hsm (one hzz.1 hzz.2).1 hsz (one hzz.1 hzz.2).2 (by omega) rfl)
end
end K52
namespace Es
open PySem PySem.Spec PyProof.Rows L2 Evl LamX
def EvLD (te : TE) (σ : L2.St) (H : Hp) (ds : List PyData) : Prop := ∀ H1, Ex H H1 → ∀ Q : VK, (∀ l us H2, Ex H1 H2 → H1 l = none → H2 l = some (.lst us) → PdAll H2 us ds → Q (.ref l) H2) → te σ H1 Q
section
variable {K : PySem.W.Frag} {σ : L2.St} {H : Hp} {te tf tl : TE} {ds es : List PyData}
theorem eld_cat (h : EvLD te σ H ds) (r : EvLD tf σ H es) (hn : ds.length + es.length ≤ 1000) : EvLD (tOp rCat te tf) σ H (ds ++ es) := fun H1 e Q q =>
  h H1 e _ fun l us H2 e2 nl hl hus => r H2 (e.trans e2) _ fun m vs H3 e3 nm hm hvs => ⟨l, m, us, vs, rfl, rfl, e3 _ _ hl, hm, sz_of (by have := hus.length; have := hvs.length; omega), fun a na =>
    q a _ _ ((e2.trans e3).trans (Ex.new na)) (fresh_back (e2.trans e3) na) upd_same (((hus.up e3).append hvs).up (Ex.new na))⟩
theorem eld_pairs {k : Str} {zs : List Str} {j : Nat} {vs : List Nat} (h : EvL tl σ H (zs.map V.str)) (hz : zs.length ≤ 1000) (hw : ∀ x, wipe ((wipe σ vs).set j (some x)) vs = wipe σ vs) (hj : ∀ x, ((wipe σ vs).set j (some x))[j]? = some (some x)) :
    EvLD (tLc (iList K tl) (gName j) tYes (tTup (tCons (tC (.str k)) (tCons (tVar j) tNil))) vs) σ H (zs.map fun z => .tuple [.str k, .str z]) := by
  intro H0 e Q q
  refine h H0 e _ fun p H1 np e1 hp => ⟨p, rfl, ⟨_, sq_of hp⟩, fun D hD => ?_⟩
  refine lc_it (walk_list (xs := zs.map V.str)) (fun i H' => Ex H1 H' ∧ ∃ us, H' D = some (.lst us) ∧ PdAll H' us ((zs.take i).map fun z => .tuple [.str k, .str z])) ⟨Ex.new hD, [], upd_same, .nil⟩ (fun i H' _ z => sq_of (z.1 _ _ hp)) (fun i x Ha Hb hi p' y => ?_) (fun Hc p' => ?_)
  · obtain ⟨rfl, hx⟩ := y
    obtain ⟨e2, us, hDl, hus⟩ := p'
    rw [List.getElem?_map] at hx
    obtain ⟨z, hz1, rfl⟩ : ∃ z, zs[i]? = some z ∧ x = .str z := by
      cases hh : zs[i]? with
      | none => rw [hh] at hx; cases hx
      | some z => rw [hh] at hx; cases hx; exact ⟨z, rfl, rfl⟩
    have hil : i < zs.length := (List.getElem?_eq_some_iff.mp hz1).1
    refine ⟨hw _, .str z, hj _, sz_of (by show 2 ≤ 100000; decide), fun a na => ?_⟩
    have ea := Ex.new (o := .tup [.str k, .str z]) na
    have hDl2 := ea _ _ hDl
    refine ⟨us, hDl2, sz_lt (by have := hus.length; rw [List.length_map, List.length_take] at this; omega), Ex.mut (e2.trans ea) hD, us ++ [.ref a], upd_same, ?_⟩
    rw [List.take_add_one, hz1, List.map_append]
    exact ((hus.up ea).append (.cons (.tup upd_same (.cons (.str _) (.cons (.str _) .nil))) .nil)).ts (Ts.lst hDl2)
  · obtain ⟨e2, us, hDl, hus⟩ := p'
    rw [List.length_map, List.take_length] at hus
    exact q D us Hc (e1.trans e2) (fresh_back e1 hD) hDl hus
end

/-! what is kept where a table is written -/
mutual
theorem Dd.extN {p : Option Sx} {H H' : Hp} (e : ExtN H H') : ∀ {v : V} {d : PyData}, Dd p H v d → Dd p H' v d
  | _, _, .non => .non
  | _, _, .bl b => .bl b
  | _, _, .int i => .int i
  | _, _, .str x => .str x
  | _, _, .lst n m h r => .lst n m (e _ _ h (fun _ z => nomatch z)) (DdAll.extN e r)
  | _, _, .tup n h r => .tup n (e _ _ h (fun _ z => nomatch z)) (DdAll.extN e r)
  | _, _, .dk0 n h => .dk0 n (e _ _ h (fun _ z => nomatch z))
  | _, _, .dk1 n h r => .dk1 n (e _ _ h (fun _ z => nomatch z)) (Dd.extN e r)
theorem DdAll.extN {p : Option Sx} {H H' : Hp} (e : ExtN H H') : ∀ {vs : List V} {ds : List PyData}, DdAll p H vs ds → DdAll p H' vs ds
  | _, _, .nil => .nil
  | _, _, .cons h r => .cons (Dd.extN e h) (DdAll.extN e r)
end
theorem PdAll.mem {H : Hp} : ∀ {vs : List V} {ds : List PyData} {v : V}, PdAll H vs ds → v ∈ vs → ∃ d ∈ ds, Pd H v d
  | _, _, _, .cons h r, hv => by
    rcases List.mem_cons.mp hv with e | e
    · subst e
      exact ⟨_, List.mem_cons_self .., h⟩
    · obtain ⟨d, a, b⟩ := PdAll.mem r e
      exact ⟨d, List.mem_cons_of_mem _ a, b⟩
theorem msz_sum : ∀ ws : List Str, (ws.map (·.length)).sum + ws.length ≤ msz ws
  | [] => Nat.le_refl _
  | w :: r => by
    have := msz_sum r
    rw [msz_cons, List.map_cons, List.sum_cons, List.length_cons]
    omega
def OddV (H : Hp) (v : V) : Prop := ∃ d, Dd none H v d ∧ isStr d = false
theorem OddV.extN {H H' : Hp} {v : V} (h : OddV H v) (e : ExtN H H') : OddV H' v := h.elim fun d z => ⟨d, z.1.extN e, z.2⟩
theorem sq_extN {K : PySem.W.Frag} {H H' : Hp} {a : Addr} {xs : List V} (e : ExtN H H') (h : SqL K H a xs) : SqL K H' a xs := by
  rcases h with h | h
  · rcases h with h | ⟨o, h⟩
    · exact .inl (.inl (e _ _ h (fun _ z => nomatch z)))
    · exact .inl (.inr ⟨o, e _ _ h (fun _ z => nomatch z)⟩)
  · exact .inr h
theorem ExtN.ts {H H' : Hp} (e : ExtN H H') : Ts H H' := fun a xs h => e a _ h (fun _ z => nomatch z)
theorem Pot.extN {H H' : Hp} {p : Addr} {n : Int} (h : Pot H p n) (e : ExtN H H') : Pot H' p n := by
  obtain ⟨g, s, c, h1, r⟩ := h
  exact ⟨g, s, c, ExtN.lst e h1, r⟩
theorem MenuW.extN {p m : Addr} {H H' : Hp} (h : MenuW p H m) (e : ExtN H H') : MenuW p H' m := by
  obtain ⟨n, ms, hm, h1, h2, h3⟩ := h
  refine ⟨n, ms, ExtN.lst e hm, h1, h2, fun v hv => ?_⟩
  obtain ⟨t, a, b, c⟩ := h3 v hv
  exact ⟨t, a.ts (ExtN.ts e), b, c⟩
theorem tabs_xp {T : List (Addr × Str)} {p : Addr} {H H' : Hp} {c : Int} (t : Tabs T H) (hP : Pot H p c) (x : Xp p H H') : Tabs T H' := by
  obtain ⟨g, s, k, hp, _⟩ := hP
  intro q hq
  obtain ⟨ps, h1, h2, h3⟩ := t q hq
  refine ⟨ps, x _ _ (fun e => by rw [e, hp] at h1; cases h1) h1, h2, fun pos cv hc => ?_⟩
  obtain ⟨c, e, h⟩ := h3 pos cv hc
  refine ⟨c, e, x _ _ (fun e' => ?_) h⟩
  rw [e', hp] at h
  have h' := Option.some.inj h
  unfold CodeO at h'
  cases h'
/-- all kept but p and the tables -/
def XN (p : Addr) (H H' : Hp) : Prop := ∀ b o, b ≠ p → H b = some o → (∀ ps, o ≠ .tbl ps) → H' b = some o
theorem XN.xp {p : Addr} {H H' : Hp} (x : Xp p H H') : XN p H H' := fun b o n h _ => x b o n h
theorem XN.ext {p : Addr} {H H' : Hp} (x : ExtN H H') : XN p H H' := fun b o _ h t => x b o h t
theorem XN.trans {p : Addr} {H H1 H2 : Hp} (a : XN p H H1) (b : XN p H1 H2) : XN p H H2 := fun c o n h t => b c o n (a c o n h t) t
theorem XN.back {p : Addr} {H H1 H2 : Hp} (e : ExtN H H1) (np : H p = none) (x : XN p H1 H2) : ExtN H H2 := fun b o h t => x b o (ne_of_none h np) (e b o h t) t
end Es
namespace K52
open PySem PySem.Spec PyProof.Rows L2 Evl Es LamX
def rMin2 : List V → Hp → VK → Prop := fun xs H Q => ∃ i j, xs = [.int i, .int j] ∧ Q (.int (if j < i then j else i)) H
def spLaw (K : PySem.W.Frag) (T : List (Addr × Str)) : Sp := fun vs H Q _ => ∃ (a : Addr) (ns : List Int), vs = [.ref a] ∧ SqL K H a (ns.map V.int) ∧ Tabs T H ∧ ∀ H', Q (.bl true) H'
abbrev nLaw : List Str := ["_law_script", "_law_odd", "_law_shown", "_law_k", "_law_pot_here", "_law_some", "_law_words", "_law_name", "_law_turn"]
theorem scLaw : FnScope nLaw ["_law_script"] (defScope sLaw) := ⟨rfl, rfl, rfl, by decide +kernel, rfl, by decide +kernel, by decide +kernel⟩
section
variable {P : Program} {w : World} {K : PySem.W.Frag} {mg : Str → Option Value} {base : Heap}
theorem ok_law {f fRd fBd fP fN fE fW fG fB fR CB fBI c Pt : Addr} {fd dRd dBd dP dN dE dW dG dB dR dBI : FuncData} {T : List (Addr × Str)} (F : FunC K "law" "law" sLaw f fd c) (TBc : BadC K mg CB fBI dBI)
    (FRd : Fun K "read_expression" "read_expression" sRead fRd dRd) (gRd : mg "read_expression" = some (.ref fRd)) (GRd : FnOk P w K mg base (L2.CX P w) 32 fRd dRd ["source"] (spReadX CB))
    (FBd : Fun K "_law_bad_source" "_law_bad_source" sBad fBd dBd) (gBd : mg "_law_bad_source" = some (.ref fBd))
    (FP : Fun K "_law_pot" "_law_pot" sPot fP dP) (gP : mg "_law_pot" = some (.ref fP)) (GP : FnOk P w K mg base CX0 34 fP dP ["_law_script", "_law_k"] (spPot K))
    (FN : Fun K "_law_names" "_law_names" sNames fN dN) (gN : mg "_law_names" = some (.ref fN)) (GN : FnOk P w K mg base CX0 34 fN dN ["_law_pot_here", "_law_many"] spNames)
    (FE : Fun K "_law_expr" "_law_expr" sExpr fE dE) (gE : mg "_law_expr" = some (.ref fE)) (GE : FnOk P w K mg base CX0 34 fE dE ["_law_pot_here", "_law_words", "_law_depth"] (spEx 3))
    (FW : Fun K "_law_written" "_law_written" sWrit fW dW) (gW : mg "_law_written" = some (.ref fW)) (GW : FnOk P w K mg base CX0 34 fW dW ["_law_expr_here"] (spShow 8))
    (FG : Fun K "_law_wrong" "_law_wrong" sWrong fG dG) (gG : mg "_law_wrong" = some (.ref fG)) (GG : FnOk P w K mg base CX0 34 fG dG [] spWrong)
    (FB : Fun K "_law_bent" "_law_bent" sBent fB dB) (gB : mg "_law_bent" = some (.ref fB)) (GB : FnOk P w K mg base CX0 34 fB dB ["_law_pot_here", "_law_words"] spBent)
    (FR : Fun K "_law_right" "_law_right" sRight fR dR) (gR : mg "_law_right" = some (.ref fR)) (GR : FnOk P w K mg base CX0 34 fR dR ["_law_shown"] (spSrc T))
    (TB : TabB base mg c Pt) (hmT : (Pt, ("law.<locals>.<lambda>" : Str)) ∈ T) (hu : ∀ p ∈ T, p.1 = Pt → p.2 = ("law.<locals>.<lambda>" : Str))
    (zrange : mg "range" = none) (zmax : mg "max" = none) (zmin : mg "min" = none) (zlen : mg "len" = none) : FnOk P w K mg base CX0 35 f fd ["_law_script"] (spLaw K T) := by
  have bRd : Binds K dRd ["source"] [] := FRd.binds fun _ _ _ _ _ _ us hl => match us, hl with | [_], _ => rfl
  have bBd : Binds K dBd ["_law_ask"] [] := FBd.binds fun _ _ _ _ _ _ us hl => match us, hl with | [_], _ => rfl
  have bP : Binds K dP ["_law_script", "_law_k"] [] := FP.binds fun _ _ _ _ _ _ us hl => match us, hl with | [_, _], _ => rfl
  have bN : Binds K dN ["_law_pot_here", "_law_many"] [] := FN.binds fun _ _ _ _ _ _ us hl => match us, hl with | [_, _], _ => rfl
  have bE : Binds K dE ["_law_pot_here", "_law_words", "_law_depth"] [] := FE.binds fun _ _ _ _ _ _ us hl => match us, hl with | [_, _, _], _ => rfl
  have bW : Binds K dW ["_law_expr_here"] [] := FW.binds fun _ _ _ _ _ _ us hl => match us, hl with | [_], _ => rfl
  have bG : Binds K dG [] [] := FG.binds fun _ _ _ _ _ _ us hl => match us, hl with | [], _ => rfl
  have bB : Binds K dB ["_law_pot_here", "_law_words"] [] := FB.binds fun _ _ _ _ _ _ us hl => match us, hl with | [_, _], _ => rfl
  have bR : Binds K dR ["_law_shown"] [] := FR.binds fun _ _ _ _ _ _ us hl => match us, hl with | [_], _ => rfl
  obtain ⟨oc, od, kV, dc, pm, an, cdB, ctB, osl, hfd, lkB, hcB⟩ := FBd.ex
  subst hfd
  refine F.ok scLaw (fun vs H Q E h => ?_) (fun A outer s H vs Q E hr h => ?_)
  · obtain ⟨a, ns, rfl, _⟩ := h
    rfl
  · obtain ⟨a, ns, rfl, hS, hT, q⟩ := h
    refine ⟨_, pss_cons (ps_set (i := 1) scLaw.nd rfl (.inl rfl) (pe_lst (pa_cons pe_non (pa_cons pe_bl (pa_cons pe_int (pa_cons pe_int (pa_cons (pe_tup pa_nil) (pa_cons (pe_tup (pa_cons pe_str pa_nil)) (pa_cons (pe_lst1 (pa_cons pe_str pa_nil)) (pa_cons pe_dnewK (pa_cons (pe_tup (pa_cons pe_str (pa_cons pe_str pa_nil))) (pa_cons (pe_op op_pow pe_int pe_int) pa_nil))))))))))))
      (pss_cons (ps_for PassesOwn.never rfl (pi_list (pe_op op_cat (pe_call0 GG hr (by rfl) gG FG.kp bG .nil pass0) (pv 1))) (pg_name (i := 2) scLaw.nd rfl (.inr rfl))
        (pss_one (ps_if (pt_cmpR (op_neD hr.units) (pe_lamcall (k := 32) (T := T) (Ng := nBad) (a := "_law_ask") (c := c) (P := Pt) (TT := TTbad CB) (t := fun E => tCall (spReadX CB) [] E (tCons (tVar 2) tNil)) (by rfl) gBd FBd.kp lkB hcB bBd scBad rfl (.inl rfl) (bad_gives TBc) TB rfl hmT hu hr (lamS_by (sc := defScope sLaw) (by decide +kernel)) rfl (fun _ _ _ _ _ => rfl)
          (fun A outer s H E f c' hr' => pe_call GRd hr' (by rfl) gRd FRd.kp bRd .nil (passes_call (takes_of rfl rfl rfl rfl) (fun _ _ _ _ h => h)) (pa_cons (pv 2) pa_nil))) (pe_lst (pa_cons pe_int pa_nil)) (nomark _)) (pss_one (ps_ret pe_bl)) pss_nil)))
      (pss_cons (ps_for PassesOwn.never rfl (pi_range1 (by rfl) zrange (pa_cons (pe_callB (call_max2 rfl) (by rfl) zmax boot_max (pa_cons pe_int (pa_cons (pe_callB (call_min2 rfl) (by rfl) zmin boot_min (pa_cons pe_int (pa_cons (pe_callB call_len_seq (by rfl) zlen PySem.boot_len (pa_cons (pv 0) pa_nil)) pa_nil))) pa_nil))) pa_nil)) (pg_name (i := 3) scLaw.nd rfl (.inl rfl))
        (pss_cons (ps_set (i := 4) scLaw.nd rfl (.inl rfl) (pe_call GP hr (by rfl) gP FP.kp bP .nil pass0 (pa_cons (pv 0) (pa_cons (pv 3) pa_nil))))
        (pss_cons (ps_set (i := 5) scLaw.nd rfl (.inl rfl) (pe_call GN hr (by rfl) gN FN.kp bN .nil pass0 (pa_cons (pv 4) (pa_cons pe_int pa_nil))))
        (pss_cons (ps_set (i := 6) scLaw.nd rfl (.inl rfl) (pe_op op_cat
          (pe_lc (own := [("_law_name", 7)]) (g := gName 7) (tt := tYes) rfl scLaw.nd (pi_list (pe_slice sl_list (pv 5) po_none (po_some pe_int))) (blkOk_by (N := nLaw) (sc := defScope sLaw) (own := [("_law_name", 7)]) (by decide +kernel)) (fun _ _ _ _ _ => pg_name (i := 7) scLaw.nd rfl (Or.inl rfl)) (fun _ _ _ _ _ => pts_nil)
            (fun _ _ _ _ _ => pe_tup (pa_cons pe_str (pa_cons (pv 7) pa_nil))))
          (pe_lst (pa_cons (pe_tup (pa_cons pe_str (pa_cons (pe_ix ix_list (pv 5) pe_int (fun _ _ => rfl)) pa_nil))) pa_nil))))
        (pss_one (ps_for PassesOwn.never rfl (pi_range1 (by rfl) zrange (pa_cons pe_int pa_nil)) (pg_name (i := 8) scLaw.nd rfl (.inl rfl))
          (pss_cons (ps_set (i := 2) scLaw.nd rfl (.inr rfl) (pe_call GB hr (by rfl) gB FB.kp bB .nil pass0 (pa_cons (pv 4) (pa_cons (pe_split (pe_call GW hr (by rfl) gW FW.kp bW .nil pass0 (pa_cons (pe_call GE hr (by rfl) gE FE.kp bE .nil pass0 (pa_cons (pv 4) (pa_cons (pv 6) (pa_cons pe_int pa_nil)))) pa_nil)) pe_str) pa_nil))))
          (pss_one (ps_if (pt_not (pt_val (pe_call GR hr (by rfl) gR FR.kp bR .nil pass0 (pa_cons (pe_join pe_str (pv 2)) pa_nil)))) (pss_one (ps_ret pe_bl)) pss_nil)))))))))
      (pss_one (ps_ret pe_bl)))), ?_⟩
    -- values of other kinds
    refine ⟨sz_of (by show 0 ≤ 100000; decide), fun a1 n1 => ⟨sz_of (by show 1 ≤ 100000; decide), fun a2 n2 => ⟨sz_of (by show 1 ≤ 100000; decide), fun a3 s3 n3 => fun a4 n4 => ⟨sz_of (by show 2 ≤ 100000; decide), fun a5 n5 => ⟨10, 18, rfl, rfl, ⟨by decide, by decide, by decide⟩, sz_of (by show 10 ≤ 100000; decide), fun l nl => ?_⟩⟩⟩⟩⟩
    have x1 := Ex.new (o := .tup []) n1
    have x2 := Ex.new (o := .tup [.str "a"]) n2
    have x3 := Ex.new (o := .lst [.str "a"]) n3
    have x4 := Ex.new (o := .dK []) n4
    have x5 := Ex.new (o := .tup [.str "token", .str "a"]) n5
    have d1 : OddV (upd H a1 (.tup [])) (.ref a1) := ⟨_, .tup (fun z => z) upd_same .nil, rfl⟩
    have d2 : OddV (upd (upd H a1 (.tup [])) a2 (.tup [.str "a"])) (.ref a2) := ⟨_, .tup (fun z => z) upd_same (.cons (.str _) .nil), rfl⟩
    have d3 : OddV (upd (upd (upd H a1 (.tup [])) a2 (.tup [.str "a"])) a3 (.lst [.str "a"])) (.ref a3) := ⟨_, .lst (fun z => z) s3 upd_same (.cons (.str _) .nil), rfl⟩
    have d4 : OddV (upd (upd (upd (upd H a1 (.tup [])) a2 (.tup [.str "a"])) a3 (.lst [.str "a"])) a4 (.dK [])) (.ref a4) := ⟨_, .dk0 (fun z => z) upd_same, rfl⟩
    have d5 : OddV (upd (upd (upd (upd (upd H a1 (.tup [])) a2 (.tup [.str "a"])) a3 (.lst [.str "a"])) a4 (.dK [])) a5 (.tup [.str "token", .str "a"])) (.ref a5) := ⟨_, .tup (fun z => z) upd_same (.cons (.str _) (.cons (.str _) .nil)), rfl⟩
    obtain ⟨odds, hodds⟩ : ∃ odds : List V, odds = [.non, .bl true, .int 0, .int 7, .ref a1, .ref a2, .ref a3, .ref a4, .ref a5, .int (10 ^ (18 : Int).toNat)] := ⟨_, rfl⟩
    have x6 := Ex.new (o := .lst odds) nl
    have hodd : ∀ v ∈ odds, OddV (upd (upd (upd (upd (upd (upd H a1 (.tup [])) a2 (.tup [.str "a"])) a3 (.lst [.str "a"])) a4 (.dK [])) a5 (.tup [.str "token", .str "a"])) l (.lst odds)) v := by
      intro v hv
      rw [hodds] at hv
      simp only [List.mem_cons, List.not_mem_nil, or_false] at hv
      rcases hv with h | h | h | h | h | h | h | h | h | h <;> rw [h]
      · exact ⟨_, .non, rfl⟩
      · exact ⟨_, .bl _, rfl⟩
      · exact ⟨_, .int _, rfl⟩
      · exact ⟨_, .int _, rfl⟩
      · exact d1.extN (ExtN.ex ((((x2.trans x3).trans x4).trans x5).trans x6))
      · exact d2.extN (ExtN.ex (((x3.trans x4).trans x5).trans x6))
      · exact d3.extN (ExtN.ex ((x4.trans x5).trans x6))
      · exact d4.extN (ExtN.ex (x5.trans x6))
      · exact d5.extN (ExtN.ex x6)
      · exact ⟨_, .int _, rfl⟩
    have hol : odds.length = 10 := by rw [hodds]; rfl
    have eA : Ex H (upd (upd (upd (upd (upd (upd H a1 (.tup [])) a2 (.tup [.str "a"])) a3 (.lst [.str "a"])) a4 (.dK [])) a5 (.tup [.str "token", .str "a"])) l (.lst odds)) := ((((x1.trans x2).trans x3).trans x4).trans x5).trans x6
    have hlA : upd (upd (upd (upd (upd (upd H a1 (.tup [])) a2 (.tup [.str "a"])) a3 (.lst [.str "a"])) a4 (.dK [])) a5 (.tup [.str "token", .str "a"])) l (.lst odds) l = some (.lst odds) := upd_same
    rw [← hodds]
    generalize upd (upd (upd (upd (upd (upd H a1 (.tup [])) a2 (.tup [.str "a"])) a3 (.lst [.str "a"])) a4 (.dK [])) a5 (.tup [.str "token", .str "a"])) l (.lst odds) = HA at hodd eA hlA
    have hTA := hT.ext eA
    have hcat : EvL (tOp rCat (tCall spWrong [] E0 tNil) (tVar 1)) [some (.ref a), some (.ref l), none, none, none, none, none, none, none] HA (wvs wrongs ++ odds) := fun H1 e Q' q' => ⟨rfl, fun m H2 nm e2 hm => ⟨.ref l, rfl, m, l, wvs wrongs, odds, rfl, rfl, hm, e2 _ _ (e _ _ hlA), sz_of (by rw [hol]; show 42 + 10 ≤ 100000; decide), fun b nb => q' b _ (fresh_back e2 nb) (e2.trans (Ex.new nb)) upd_same⟩⟩
    refine q_forNLn hcat (fun p i σ' H' => ExtN HA H' ∧ Tabs T H' ∧ H' p = some (.lst (wvs wrongs ++ odds)) ∧ ∃ y2, σ' = [some (.ref a), some (.ref l), y2, none, none, none, none, none, none]) (fun p H1 np e1 hp => ⟨ExtN.ex e1, hTA.ext e1, hp, _, rfl⟩) (fun p i σ' H' _ z => sq_of z.2.2.1) ?_ ?_
    · rintro p i x σ' H1 hx ⟨eN, hT1, hp, y2, rfl⟩
      have hx' : OddV H1 x ∨ ∃ z ∈ wrongs, x = .str z := by
        rcases List.mem_append.mp (List.mem_of_getElem? hx) with h | h
        · obtain ⟨z, hz, rfl⟩ := List.mem_map.mp h
          exact .inr ⟨z, hz, rfl⟩
        · exact .inl ((hodd x h).extN eN)
      have hR : ∀ {H2 : Hp} {Q : VK} {E : XK}, ExtN H1 H2 → Raised CB "row" (.int 0) H2 E → spReadX CB [x] H2 Q E := fun {H2 Q E} eN2 hR => by
        rcases hx' with h | ⟨z, hz, rfl⟩
        · obtain ⟨d, h1, h2⟩ := h.extN eN2
          exact .inr ⟨x, none, d, rfl, h1, h2, hR⟩
        · obtain ⟨h1, h2⟩ := wrongs_ok hz
          exact .inl ⟨z, rfl, h1, fun t ht => absurd ⟨t, ht⟩ h2, fun _ => hR⟩
      refine ⟨hT1, fun H2 eN2 T2 => ⟨x, rfl, ?_⟩⟩
      refine hR eN2 ?_
      refine fun dd H3 e3 hd3 => ⟨rfl, dd, _, .int 0, rfl, hd3, rfl, fun l2 n2 => ⟨sz_of (by show 1 ≤ 100000; decide), fun l3 n3 => ?_⟩⟩
      have e4 := Ex.new (o := .lst [.int 0]) n2
      have e5 := Ex.new (o := .lst [.int 0]) n3
      refine ⟨.list [.int 0], .list [.int 0], .lst (sq_of (e5 _ _ upd_same)) (.cons (.int 0) .nil), .lst (sq_of upd_same) (.cons (.int 0) .nil), shaped0, shaped0, _, rfl, ?_⟩
      rw [show (!PyData.eqv (.list [.int 0]) (.list [.int 0])) = false from by decide +kernel]
      have eq5 := eN2.trans (ExtN.ex ((e3.trans e4).trans e5))
      exact ⟨eN.trans eq5, T2.ext ((e3.trans e4).trans e5), ExtN.lst eq5 hp, _, rfl⟩
    rintro p0 σ' H1 ⟨eN1, hT1, _, y2, rfl⟩
    have eN1' : ExtN H H1 := (ExtN.ex eA).trans eN1
    -- the drawn ones
    obtain ⟨n, hn0, hn3, hn⟩ : ∃ n : Int, 0 ≤ n ∧ n ≤ 3 ∧ (if (if ((ns.map V.int).length : Int) < 3 then ((ns.map V.int).length : Int) else 3) > 1 then (if ((ns.map V.int).length : Int) < 3 then ((ns.map V.int).length : Int) else 3) else 1) = n := by
      refine ⟨_, ?_, ?_, rfl⟩ <;> (split <;> split <;> omega)
    have hev : EvA (tCons (tCB rMax2 (tCons (tC (.int 1)) (tCons (tCB rMin2 (tCons (tC (.int 3)) (tCons (tCB (rLenS K) (tCons (tVar 0) tNil)) tNil))) tNil))) tNil) [some (.ref a), some (.ref l), y2, none, none, none, none, none, none] H1 [.int n] := by
      intro H2 e2 Q q2
      refine ⟨.ref a, rfl, a, _, rfl, .inl (ex_l e2 (sq_extN eN1' hS)), 3, _, rfl, 1, _, rfl, ?_⟩
      rw [hn]
      exact q2 H2 (Ex.refl _)
    refine q_forR1 hev ⟨hn0, by omega⟩ (fun i σ' H' => ExtN H H' ∧ Tabs T H' ∧ ∃ y2 y3 y4 y5 y6 y8 : Option V, σ' = [some (.ref a), some (.ref l), y2, y3, y4, y5, y6, none, y8]) (fun H2 e2 => ⟨eN1'.trans (ExtN.ex e2), hT1.ext e2, _, _, _, _, _, _, rfl⟩) ?_ ?_
    · rintro i σ' H2 hi ⟨eN2, hT2, z2, z3, z4, z5, z6, z8, rfl⟩
      refine ⟨.ref a, rfl, .int (i : Int), rfl, a, i, ns, rfl, by omega, sq_extN eN2 hS, fun p H3 np e3 P3 => ?_⟩
      refine ⟨.ref p, rfl, p, 4, 0, rfl, by decide, by decide, by decide, P3, fun ln zs H4 hlp nln x4 P4 hln hzl hzt => ?_⟩
      have hT4 := tabs_xp (hT2.ext e3) P3 x4
      obtain ⟨z3, hz3⟩ : ∃ z3, zs[3]? = some z3 := ⟨_, List.getElem?_eq_getElem (by omega)⟩
      -- the leaves
      have hone : EvLD (tLst (tCons (tTup (tCons (tC (.str "block")) (tCons (tOp (rIxL K) (tVar 5) (tC (.int 3))) tNil))) tNil)) [some (.ref a), some (.ref l), z2, some (.int (i : Int)), some (.ref p), some (.ref ln), z6, none, z8] H4 [.tuple [.str "block", .str z3]] := by
        intro Ha ea Q' q'
        refine ⟨.ref ln, rfl, ln, _, 3, .str z3, rfl, rfl, sq_of (ea _ _ hln), atI_nat (j := 3) (by rw [List.getElem?_map, hz3]; rfl), sz_of (by show 2 ≤ 100000; decide), fun b nb => ⟨sz_of (by show 1 ≤ 100000; decide), fun b2 nb2 => ?_⟩⟩
        have eb := Ex.new (o := .tup [.str "block", .str z3]) nb
        exact q' b2 [.ref b] _ (eb.trans (Ex.new nb2)) (fresh_back eb nb2) upd_same (.cons (.tup ((Ex.new nb2) _ _ upd_same) (.cons (.str _) (.cons (.str _) .nil))) .nil)
      have hw : EvLD (tOp rCat (tLc (iList K (tSl (rSlL K) (tVar 5) tNoPart (tPart (tC (.int 3))))) (gName 7) tYes (tTup (tCons (tC (.str "token")) (tCons (tVar 7) tNil))) [7]) (tLst (tCons (tTup (tCons (tC (.str "block")) (tCons (tOp (rIxL K) (tVar 5) (tC (.int 3))) tNil))) tNil)))
          [some (.ref a), some (.ref l), z2, some (.int (i : Int)), some (.ref p), some (.ref ln), z6, none, z8] H4 (((zs.take 3).map fun z => .tuple [.str "token", .str z]) ++ [.tuple [.str "block", .str z3]]) := by
        have t1 : cutV (zs.map V.str) none (some 3) = (zs.take 3).map V.str := by rw [show (some (3 : Int)) = some ((3 : Nat) : Int) from rfl, cut_0, List.map_take]
        refine eld_cat (eld_pairs (zs := zs.take 3) ?_ (by rw [List.length_take]; omega) (fun _ => rfl) (fun _ => rfl)) hone (by rw [List.length_map, List.length_take]; show _ + 1 ≤ 1000; omega)
        rw [← t1]
        exact el_sl (ev_var rfl) eo_none (eo_some ev_c) (sq_of hln)
      refine hw H4 (Ex.refl _) _ fun m us H5 e5 nm hm hus => ?_
      have P5 := P4.up e5
      have hT5 := hT4.ext e5
      have hmp : m ≠ p := P4.ne nm
      have hul : us.length = 3 + 1 := by
        rw [hus.length, List.length_append, List.length_map, List.length_take, hzl]
        rfl
      have hmenu : MenuW p H5 m := by
        refine ⟨hmp, us, hm, by omega, by omega, fun v hv => ?_⟩
        obtain ⟨d, hd, hp⟩ := hus.mem hv
        rcases List.mem_append.mp hd with hd | hd
        · obtain ⟨z, hz, rfl⟩ := List.mem_map.mp hd
          exact ⟨.leaf "token" z, hp, ⟨by decide +kernel, hzt z (List.mem_of_mem_take hz)⟩, rfl⟩
        · rw [List.mem_singleton.mp hd] at hp
          exact ⟨.leaf "block" z3, hp, ⟨by decide +kernel, hzt z3 (List.mem_of_getElem? hz3)⟩, rfl⟩
      refine s_forR1 (n := 12) (ea_cons ev_c ea_nil) ⟨by decide, by decide⟩ (fun j σ' H' => XN p H5 H' ∧ Tabs T H' ∧ Pot H' p (12 + 60 * j) ∧ MenuW p H' m ∧ ∃ y2 y8 : Option V, σ' = [some (.ref a), some (.ref l), y2, some (.int (i : Int)), some (.ref p), some (.ref ln), some (.ref m), none, y8])
        (fun H6 e6 => ⟨XN.xp (Xp.ex e6), hT5.ext e6, (P5.up e6).more (by omega), hmenu.extN (ExtN.ex e6), _, _, rfl⟩) ?_ ?_
      · rintro j σ' H6 hj ⟨x6, T6, P6, M6, w2, w8, rfl⟩
        refine ⟨.ref p, rfl, .ref p, rfl, .ref m, rfl, p, m, 2, 12 + 60 * (j : Int), rfl, by decide, by decide, by omega, by show 12 + 60 * (j : Int) + 21 ≤ 90000; omega, P6, M6, fun v t H7 x7 P7 hv hf hd hnl => ?_⟩
        have hnl' : t.nl ≤ 9 := hnl
        have hwid : t.wid ≤ 288 := by
          have h1 := wid_le t hf
          have h2 : t.nl * (10 + 11 * t.dep) ≤ 9 * 32 := Nat.mul_le_mul hnl' (by omega)
          omega
        have hsl := sh_len t hf
        refine ⟨none, v, t, rfl, by omega, hv.dd, hf, by omega, fun H8 e8 => ⟨⟨_, rfl⟩, t.sh, " ", rfl, rfl, rfl, sz_of (by omega), fun lw nlw => ?_⟩⟩
        have e9 := Ex.new (o := .lst ((Txt.split t.sh " ").map V.str)) nlw
        have P8 := P7.up e8
        have P9 := P8.up e9
        have hwd : Txt.split t.sh " " = t.wd := split_sh hf
        have hlw : upd H8 lw (.lst ((Txt.split t.sh " ").map V.str)) lw = some (.lst (wvs t.wd)) := by rw [upd_same, hwd]; rfl
        generalize upd H8 lw (.lst ((Txt.split t.sh " ").map V.str)) = H9 at e9 P9 hlw
        have hne : t.wd ≠ [] := wd_ne t hf
        refine ⟨p, lw, 12 + 60 * (j : Int) + 21, t.wd, rfl, by omega, by omega, P9, P8.ne nlw, hlw, hne, fun z hz => ⟨(wd_ok t hf z hz).1, wd_asc hf z hz⟩, ?_, fun lz zs2 H10 x10 P10 hlz hzsm hzl2 => ?_⟩
        · rw [msz_join hne, ← sh_wd t hf]
          omega
        have T7 := tabs_xp T6 P6 x7
        have T10 := tabs_xp (T7.ext (e8.trans e9)) P9 x10
        have M10 := (((M6.xp P6 x7).xp P7 (Xp.ex (e8.trans e9))).xp P9 x10)
        have hjl := join_msz zs2
        refine ⟨⟨_, rfl⟩, .ref lz, rfl, " ", lz, zs2, rfl, rfl, .inl (sq_of hlz), ?_, ?_⟩
        · have h1 : (zs2.map (·.length)).sum + zs2.length ≤ msz zs2 := msz_sum zs2
          show _ + zs2.length * 1 ≤ 16777216
          omega
        rw [TL.join_eq]
        refine ⟨_, rfl, src_ok (join_small hzsm) (by omega), T10, fun H11 eN11 T11 => ⟨true, rfl, ?_⟩⟩
        exact ⟨((x6.trans (XN.xp ((x7.trans (Xp.ex (e8.trans e9))).trans x10))).trans (XN.ext eN11)), T11, (P10.extN eN11).more (by rw [Int.natCast_add]; show _ ≤ 12 + 60 * ((j : Int) + 1); omega), M10.extN eN11, _, _, rfl⟩
      · rintro σ' H6 ⟨x6, T6, P6, M6, w2, w8, rfl⟩
        exact ⟨eN2.trans (XN.back (ExtN.ex e3) np ((XN.xp (x4.trans (Xp.ex e5))).trans x6)), T6, _, _, _, _, _, _, rfl⟩
    · rintro σ' H2 ⟨eN2, hT2, z2, z3, z4, z5, z6, z8, rfl⟩
      exact q H2
end
end K52
namespace Es
open PySem PySem.Spec PyProof.Rows L2 Evl
theorem br_at {K : PySem.W.Frag} {w : World} {d : Addr} {n : Nat} {h0 h1 h2 : Int} {a0 a1 a2 b0 b1 b2 : Tok}
    (x : K.lookup d = some ⟨.type "dict", none, .dict #[⟨h0, .str "(" a0, .str "" b0⟩, ⟨h1, .str "{" a1, .str "repeat" b1⟩, ⟨h2, .str "[" a2, .str "optional" b2⟩] n, #[]⟩)
    (y0 : h0 = PyData.keyHash w.params "(") (y1 : h1 = PyData.keyHash w.params "{") (y2 : h2 = PyData.keyHash w.params "[") (s : (d == sysModules) = false) : BrAt K w d := by
  have key : ∀ z, PySem.W.nsIn K d z = if ((("(" : Str)) == z) = true then some (some (.str "" b0)) else if ((("{" : Str)) == z) = true then some (some (.str "repeat" b1)) else if ((("[" : Str)) == z) = true then some (some (.str "optional" b2)) else some none := by
    intro z
    unfold PySem.W.nsIn
    rw [x]
    show (match List.find? (fun e : DictEntry => e.key.isStr z) [⟨h0, .str "(" a0, .str "" b0⟩, ⟨h1, .str "{" a1, .str "repeat" b1⟩, ⟨h2, .str "[" a2, .str "optional" b2⟩] with
      | some e => some (some e.val)
      | none => if List.any ([⟨h0, .str "(" a0, .str "" b0⟩, ⟨h1, .str "{" a1, .str "repeat" b1⟩, ⟨h2, .str "[" a2, .str "optional" b2⟩] : List DictEntry) (fun e : DictEntry => e.refKey) then none else some none) = _
    by_cases c0 : ((("(" : Str)) == z) = true
    · rw [if_pos c0, List.find?_cons_of_pos (p := fun e : DictEntry => e.key.isStr z) (a := ⟨h0, .str "(" a0, .str "" b0⟩) (show (Value.str "(" a0).isStr z = true from c0)]
    rw [if_neg c0, List.find?_cons_of_neg (p := fun e : DictEntry => e.key.isStr z) (a := ⟨h0, .str "(" a0, .str "" b0⟩) (show ¬ (Value.str "(" a0).isStr z = true from c0)]
    by_cases c1 : ((("{" : Str)) == z) = true
    · rw [if_pos c1, List.find?_cons_of_pos (p := fun e : DictEntry => e.key.isStr z) (a := ⟨h1, .str "{" a1, .str "repeat" b1⟩) (show (Value.str "{" a1).isStr z = true from c1)]
    rw [if_neg c1, List.find?_cons_of_neg (p := fun e : DictEntry => e.key.isStr z) (a := ⟨h1, .str "{" a1, .str "repeat" b1⟩) (show ¬ (Value.str "{" a1).isStr z = true from c1)]
    by_cases c2 : ((("[" : Str)) == z) = true
    · rw [if_pos c2, List.find?_cons_of_pos (p := fun e : DictEntry => e.key.isStr z) (a := ⟨h2, .str "[" a2, .str "optional" b2⟩) (show (Value.str "[" a2).isStr z = true from c2)]
    rw [if_neg c2, List.find?_cons_of_neg (p := fun e : DictEntry => e.key.isStr z) (a := ⟨h2, .str "[" a2, .str "optional" b2⟩) (show ¬ (Value.str "[" a2).isStr z = true from c2), List.find?_nil]
    rfl
  refine ⟨⟨_, _, x, ⟨⟨_, _, rfl, y0⟩, ⟨_, _, rfl, y1⟩, ⟨_, _, rfl, y2⟩, trivial⟩, s⟩, fun z hz => ?_, fun z k hz => ?_⟩
  · unfold brk at hz
    by_cases c0 : z = "("
    · rw [if_pos c0] at hz; cases hz
    rw [if_neg c0] at hz
    by_cases c1 : z = "{"
    · rw [if_pos c1] at hz; cases hz
    rw [if_neg c1] at hz
    by_cases c2 : z = "["
    · rw [if_pos c2] at hz; cases hz
    rw [key z, if_neg (fun e => c0 (eq_of_beq e).symm), if_neg (fun e => c1 (eq_of_beq e).symm), if_neg (fun e => c2 (eq_of_beq e).symm)]
  · unfold brk at hz
    by_cases c0 : z = "("
    · rw [if_pos c0] at hz
      cases hz
      exact ⟨b0, by rw [key z, if_pos (by rw [c0]; exact beq_self_eq_true _)]⟩
    rw [if_neg c0] at hz
    by_cases c1 : z = "{"
    · rw [if_pos c1] at hz
      cases hz
      exact ⟨b1, by rw [key z, if_neg (fun e => c0 (eq_of_beq e).symm), if_pos (by rw [c1]; exact beq_self_eq_true _)]⟩
    rw [if_neg c1] at hz
    by_cases c2 : z = "["
    · rw [if_pos c2] at hz
      cases hz
      exact ⟨b2, by rw [key z, if_neg (fun e => c0 (eq_of_beq e).symm), if_neg (fun e => c1 (eq_of_beq e).symm), if_pos (by rw [c2]; exact beq_self_eq_true _)]⟩
    · rw [if_neg c2] at hz
      cases hz
end Es
namespace K52
open PySem PySem.Spec PyProof.Rows L2 Evl Es LamX
theorem all_mk {l : PySem.W.OpenLaw} {w : World} {K : PySem.W.Frag} {h : Heap} {mg : Str → Option Value} {fa : Addr} (X : K.In h) (G : h.Ns mainGlobals mg) (hfa : mg "law" = some (.ref fa))
    {f0 : Addr} {od0 an0 : Option Addr} {sl0 : Array (Option Value)} {oc0 kV0 dc0 pm0 ct0 : Value} {cd0 : Value}
    {f1 : Addr} {od1 an1 : Option Addr} {sl1 : Array (Option Value)} {oc1 kV1 dc1 pm1 ct1 : Value} {cd1 : Value}
    {f2 : Addr} {od2 an2 : Option Addr} {sl2 : Array (Option Value)} {oc2 kV2 dc2 pm2 ct2 : Value} {cd2 : Value}
    {f3 : Addr} {od3 an3 : Option Addr} {sl3 : Array (Option Value)} {oc3 kV3 dc3 pm3 ct3 : Value} {cd3 : Value}
    {f4 : Addr} {od4 an4 : Option Addr} {sl4 : Array (Option Value)} {oc4 kV4 dc4 pm4 ct4 : Value} {cd4 : Value}
    {f5 : Addr} {od5 an5 : Option Addr} {sl5 : Array (Option Value)} {oc5 kV5 dc5 pm5 ct5 : Value} {cd5 : Value}
    {f6 : Addr} {od6 an6 : Option Addr} {sl6 : Array (Option Value)} {oc6 kV6 dc6 pm6 ct6 : Value} {cd6 : Value}
    {f7 : Addr} {od7 an7 : Option Addr} {sl7 : Array (Option Value)} {oc7 kV7 dc7 pm7 ct7 : Value} {cd7 : Value}
    {f8 : Addr} {od8 an8 : Option Addr} {sl8 : Array (Option Value)} {oc8 kV8 dc8 pm8 ct8 : Value} {cd8 : Value}
    {f9 : Addr} {od9 an9 : Option Addr} {sl9 : Array (Option Value)} {oc9 kV9 dc9 pm9 ct9 : Value} {cd9 : Value}
    {f10 : Addr} {od10 an10 : Option Addr} {sl10 : Array (Option Value)} {oc10 kV10 dc10 pm10 ct10 : Value} {cd10 : Value}
    {f11 : Addr} {od11 an11 : Option Addr} {sl11 : Array (Option Value)} {oc11 kV11 dc11 pm11 ct11 : Value} {cd11 : Value}
    {f12 : Addr} {od12 an12 : Option Addr} {sl12 : Array (Option Value)} {oc12 kV12 dc12 pm12 ct12 : Value} {cd12 : Value}
    {f13 : Addr} {od13 an13 : Option Addr} {sl13 : Array (Option Value)} {oc13 kV13 dc13 pm13 ct13 : Value} {cd13 : Value}
    {f14 : Addr} {od14 an14 : Option Addr} {sl14 : Array (Option Value)} {oc14 kV14 dc14 pm14 ct14 : Value} {cd14 : Value}
    {f15 : Addr} {od15 an15 : Option Addr} {sl15 : Array (Option Value)} {oc15 kV15 dc15 pm15 ct15 : Value} {cd15 : Value}
    {f16 : Addr} {od16 an16 : Option Addr} {sl16 : Array (Option Value)} {oc16 kV16 dc16 pm16 ct16 : Value} {cd16 : Value}
    {f17 : Addr} {od17 an17 : Option Addr} {sl17 : Array (Option Value)} {oc17 kV17 dc17 pm17 ct17 : Value} {cd17 : Value}
    {f18 : Addr} {od18 an18 : Option Addr} {sl18 : Array (Option Value)} {oc18 kV18 dc18 pm18 ct18 : Value} {cd18 : Value}
    {f19 : Addr} {od19 an19 : Option Addr} {sl19 : Array (Option Value)} {oc19 kV19 dc19 pm19 ct19 : Value} {cc19 pp19 : Addr}
    {f20 : Addr} {od20 an20 : Option Addr} {sl20 : Array (Option Value)} {oc20 kV20 dc20 pm20 ct20 : Value} {cc20 pp20 : Addr}
    {C : Addr}
    {e0 : Addr} {xd0 xn0 : Option Addr} {xs0 : Array (Option Value)} {xo0 xk0 xe0 xp0 xc0 xt0 : Value}
    {e1 : Addr} {xd1 xn1 : Option Addr} {xs1 : Array (Option Value)} {xo1 xk1 xe1 xp1 xc1 xt1 : Value}
    {e2 : Addr} {xd2 xn2 : Option Addr} {xs2 : Array (Option Value)} {xo2 xk2 xe2 xp2 xc2 xt2 : Value}
    {e3 : Addr} {xd3 xn3 : Option Addr} {xs3 : Array (Option Value)} {xo3 xk3 xe3 xp3 xc3 xt3 : Value}
    {CB fBI : Addr} {bd bn : Option Addr} {bs' : Array (Option Value)} {bo bk be bp bc bt : Value} {nm q5 : Str} {N5 : Addr} {bs5 bm5 sub5 : List Value} {sn5 : List Str} {ab5 : Bool} {col5 : Option Bool} {dd5 : Option Addr} {kk0 kk1 kk2 kk3 kk5 : Option Value}
    {t0 : Tok}
    {t1 : Tok}
    {t2 : Tok}
    {t3 : Tok}
    {t4 : Tok}
    {t5 : Tok}
    {u0 : Addr} {ud0 : Option Addr} {un0 : Nat} {us0 : Array (Option Value)} {ut0_0 : Tok} {ut0_1 : Tok}
    {u1 : Addr} {ud1 : Option Addr} {un1 : Nat} {us1 : Array (Option Value)} {ut1_0 : Tok} {ut1_1 : Tok} {ut1_2 : Tok}
    {uB nB : Nat} {hB0 hB1 hB2 : Int} {tB0 tB1 tB2 tV0 tV1 tV2 : Tok}
    (a0 : PySem.W.nsIn K mainGlobals "show_expression" = some (some (.ref f0))) (l0 : K.lookup f0 = some ⟨oc0, od0, .func (PySem.W.fnOf "show_expression" "show_expression" (defArgs sShow) (defBody sShow) (defScope sShow) .none kV0 dc0 pm0 an0 cd0 ct0), sl0⟩)
      (c0 : PySem.W.codeIn K cd0 "show_expression" = true) (k0 : PySem.W.keepIn K (.ref f0) = true)
    (a1 : PySem.W.nsIn K mainGlobals "show_part" = some (some (.ref f1))) (l1 : K.lookup f1 = some ⟨oc1, od1, .func (PySem.W.fnOf "show_part" "show_part" (defArgs sPart) (defBody sPart) (defScope sPart) .none kV1 dc1 pm1 an1 cd1 ct1), sl1⟩)
      (c1 : PySem.W.codeIn K cd1 "show_part" = true) (k1 : PySem.W.keepIn K (.ref f1) = true)
    (a2 : PySem.W.nsIn K mainGlobals "is_token" = some (some (.ref f2))) (l2 : K.lookup f2 = some ⟨oc2, od2, .func (PySem.W.fnOf "is_token" "is_token" (defArgs sTok) (defBody sTok) (defScope sTok) .none kV2 dc2 pm2 an2 cd2 ct2), sl2⟩)
      (c2 : PySem.W.codeIn K cd2 "is_token" = true) (k2 : PySem.W.keepIn K (.ref f2) = true)
    (a3 : PySem.W.nsIn K mainGlobals "is_expression" = some (some (.ref f3))) (l3 : K.lookup f3 = some ⟨oc3, od3, .func (PySem.W.fnOf "is_expression" "is_expression" (defArgs sIsE) (defBody sIsE) (defScope sIsE) .none kV3 dc3 pm3 an3 cd3 ct3), sl3⟩)
      (c3 : PySem.W.codeIn K cd3 "is_expression" = true) (k3 : PySem.W.keepIn K (.ref f3) = true)
    (a4 : PySem.W.nsIn K mainGlobals "count_leaves" = some (some (.ref f4))) (l4 : K.lookup f4 = some ⟨oc4, od4, .func (PySem.W.fnOf "count_leaves" "count_leaves" (defArgs sCnt) (defBody sCnt) (defScope sCnt) .none kV4 dc4 pm4 an4 cd4 ct4), sl4⟩)
      (c4 : PySem.W.codeIn K cd4 "count_leaves" = true) (k4 : PySem.W.keepIn K (.ref f4) = true)
    (a5 : PySem.W.nsIn K mainGlobals "has_fitting_parts" = some (some (.ref f5))) (l5 : K.lookup f5 = some ⟨oc5, od5, .func (PySem.W.fnOf "has_fitting_parts" "has_fitting_parts" (defArgs sFit) (defBody sFit) (defScope sFit) .none kV5 dc5 pm5 an5 cd5 ct5), sl5⟩)
      (c5 : PySem.W.codeIn K cd5 "has_fitting_parts" = true) (k5 : PySem.W.keepIn K (.ref f5) = true)
    (a6 : PySem.W.nsIn K mainGlobals "joined" = some (some (.ref f6))) (l6 : K.lookup f6 = some ⟨oc6, od6, .func (PySem.W.fnOf "joined" "joined" (defArgs sJoin) (defBody sJoin) (defScope sJoin) .none kV6 dc6 pm6 an6 cd6 ct6), sl6⟩)
      (c6 : PySem.W.codeIn K cd6 "joined" = true) (k6 : PySem.W.keepIn K (.ref f6) = true)
    (a7 : PySem.W.nsIn K mainGlobals "leaf_of" = some (some (.ref f7))) (l7 : K.lookup f7 = some ⟨oc7, od7, .func (PySem.W.fnOf "leaf_of" "leaf_of" (defArgs sLeaf) (defBody sLeaf) (defScope sLeaf) .none kV7 dc7 pm7 an7 cd7 ct7), sl7⟩)
      (c7 : PySem.W.codeIn K cd7 "leaf_of" = true) (k7 : PySem.W.keepIn K (.ref f7) = true)
    (a8 : PySem.W.nsIn K mainGlobals "expression_of" = some (some (.ref f8))) (l8 : K.lookup f8 = some ⟨oc8, od8, .func (PySem.W.fnOf "expression_of" "expression_of" (defArgs sExOf) (defBody sExOf) (defScope sExOf) .none kV8 dc8 pm8 an8 cd8 ct8), sl8⟩)
      (c8 : PySem.W.codeIn K cd8 "expression_of" = true) (k8 : PySem.W.keepIn K (.ref f8) = true)
    (a9 : PySem.W.nsIn K mainGlobals "read_expression" = some (some (.ref f9))) (l9 : K.lookup f9 = some ⟨oc9, od9, .func (PySem.W.fnOf "read_expression" "read_expression" (defArgs sRead) (defBody sRead) (defScope sRead) .none kV9 dc9 pm9 an9 cd9 ct9), sl9⟩)
      (c9 : PySem.W.codeIn K cd9 "read_expression" = true) (k9 : PySem.W.keepIn K (.ref f9) = true)
    (a10 : PySem.W.nsIn K mainGlobals "_law_pot" = some (some (.ref f10))) (l10 : K.lookup f10 = some ⟨oc10, od10, .func (PySem.W.fnOf "_law_pot" "_law_pot" (defArgs sPot) (defBody sPot) (defScope sPot) .none kV10 dc10 pm10 an10 cd10 ct10), sl10⟩)
      (c10 : PySem.W.codeIn K cd10 "_law_pot" = true) (k10 : PySem.W.keepIn K (.ref f10) = true)
    (a11 : PySem.W.nsIn K mainGlobals "_law_take" = some (some (.ref f11))) (l11 : K.lookup f11 = some ⟨oc11, od11, .func (PySem.W.fnOf "_law_take" "_law_take" (defArgs sTake) (defBody sTake) (defScope sTake) .none kV11 dc11 pm11 an11 cd11 ct11), sl11⟩)
      (c11 : PySem.W.codeIn K cd11 "_law_take" = true) (k11 : PySem.W.keepIn K (.ref f11) = true)
    (a12 : PySem.W.nsIn K mainGlobals "_law_of" = some (some (.ref f12))) (l12 : K.lookup f12 = some ⟨oc12, od12, .func (PySem.W.fnOf "_law_of" "_law_of" (defArgs sOf) (defBody sOf) (defScope sOf) .none kV12 dc12 pm12 an12 cd12 ct12), sl12⟩)
      (c12 : PySem.W.codeIn K cd12 "_law_of" = true) (k12 : PySem.W.keepIn K (.ref f12) = true)
    (a13 : PySem.W.nsIn K mainGlobals "_law_names" = some (some (.ref f13))) (l13 : K.lookup f13 = some ⟨oc13, od13, .func (PySem.W.fnOf "_law_names" "_law_names" (defArgs sNames) (defBody sNames) (defScope sNames) .none kV13 dc13 pm13 an13 cd13 ct13), sl13⟩)
      (c13 : PySem.W.codeIn K cd13 "_law_names" = true) (k13 : PySem.W.keepIn K (.ref f13) = true)
    (a14 : PySem.W.nsIn K mainGlobals "_law_expr" = some (some (.ref f14))) (l14 : K.lookup f14 = some ⟨oc14, od14, .func (PySem.W.fnOf "_law_expr" "_law_expr" (defArgs sExpr) (defBody sExpr) (defScope sExpr) .none kV14 dc14 pm14 an14 cd14 ct14), sl14⟩)
      (c14 : PySem.W.codeIn K cd14 "_law_expr" = true) (k14 : PySem.W.keepIn K (.ref f14) = true)
    (a15 : PySem.W.nsIn K mainGlobals "_law_written" = some (some (.ref f15))) (l15 : K.lookup f15 = some ⟨oc15, od15, .func (PySem.W.fnOf "_law_written" "_law_written" (defArgs sWrit) (defBody sWrit) (defScope sWrit) .none kV15 dc15 pm15 an15 cd15 ct15), sl15⟩)
      (c15 : PySem.W.codeIn K cd15 "_law_written" = true) (k15 : PySem.W.keepIn K (.ref f15) = true)
    (a16 : PySem.W.nsIn K mainGlobals "_law_bad_source" = some (some (.ref f16))) (l16 : K.lookup f16 = some ⟨oc16, od16, .func (PySem.W.fnOf "_law_bad_source" "_law_bad_source" (defArgs sBad) (defBody sBad) (defScope sBad) .none kV16 dc16 pm16 an16 cd16 ct16), sl16⟩)
      (c16 : PySem.W.codeIn K cd16 "_law_bad_source" = true) (k16 : PySem.W.keepIn K (.ref f16) = true)
    (a17 : PySem.W.nsIn K mainGlobals "_law_wrong" = some (some (.ref f17))) (l17 : K.lookup f17 = some ⟨oc17, od17, .func (PySem.W.fnOf "_law_wrong" "_law_wrong" (defArgs sWrong) (defBody sWrong) (defScope sWrong) .none kV17 dc17 pm17 an17 cd17 ct17), sl17⟩)
      (c17 : PySem.W.codeIn K cd17 "_law_wrong" = true) (k17 : PySem.W.keepIn K (.ref f17) = true)
    (a18 : PySem.W.nsIn K mainGlobals "_law_bent" = some (some (.ref f18))) (l18 : K.lookup f18 = some ⟨oc18, od18, .func (PySem.W.fnOf "_law_bent" "_law_bent" (defArgs sBent) (defBody sBent) (defScope sBent) .none kV18 dc18 pm18 an18 cd18 ct18), sl18⟩)
      (c18 : PySem.W.codeIn K cd18 "_law_bent" = true) (k18 : PySem.W.keepIn K (.ref f18) = true)
    (a19 : PySem.W.nsIn K mainGlobals "_law_right" = some (some (.ref f19))) (l19 : K.lookup f19 = some ⟨oc19, od19, .func (PySem.W.fnOf "_law_right" "_law_right" (defArgs sRight) (defBody sRight) (defScope sRight) .none kV19 dc19 pm19 an19 (.ref cc19) ct19), sl19⟩)
      (c19 : PySem.W.codeIn K (.ref cc19) "_law_right" = true) (k19 : PySem.W.keepIn K (.ref f19) = true)
    (h19 : PySem.W.codeHdIn K cc19 pp19 = true) (m19 : K.lookup pp19 = none) (e19' : h.get? pp19 = some { cls := .none, data := .fields #[] })
    (a20 : PySem.W.nsIn K mainGlobals "law" = some (some (.ref f20))) (l20 : K.lookup f20 = some ⟨oc20, od20, .func (PySem.W.fnOf "law" "law" (defArgs sLaw) (defBody sLaw) (defScope sLaw) .none kV20 dc20 pm20 an20 (.ref cc20) ct20), sl20⟩)
      (c20 : PySem.W.codeIn K (.ref cc20) "law" = true) (k20 : PySem.W.keepIn K (.ref f20) = true)
    (h20 : PySem.W.codeHdIn K cc20 pp20 = true) (m20 : K.lookup pp20 = none) (e20' : h.get? pp20 = some { cls := .none, data := .fields #[] })
    (ne : pp19 ≠ pp20)
    (aC : PySem.W.nsIn K mainGlobals "Words" = some (some (.ref C)))
    (aM0 : PySem.W.findIn K (.ref C) "__init__" = some (some (.ref e0))) (iM0 : PySem.W.isFn K (.ref e0) = true) (lM0 : K.lookup e0 = some ⟨xo0, xd0, .func (PySem.W.fnOf "__init__" "Words.__init__" (defArgs sWI) (defBody sWI) (defScope sWI) .none xk0 xe0 xp0 xn0 xc0 xt0), xs0⟩) (cM0 : PySem.W.codeIn K xc0 "Words.__init__" = true) (kM0 : PySem.W.keepIn K (.ref e0) = true)
    (aM1 : PySem.W.findIn K (.ref C) "choice" = some (some (.ref e1))) (iM1 : PySem.W.isFn K (.ref e1) = true) (lM1 : K.lookup e1 = some ⟨xo1, xd1, .func (PySem.W.fnOf "choice" "Words.choice" (defArgs sWCho) (defBody sWCho) (defScope sWCho) .none xk1 xe1 xp1 xn1 xc1 xt1), xs1⟩) (cM1 : PySem.W.codeIn K xc1 "Words.choice" = true) (kM1 : PySem.W.keepIn K (.ref e1) = true)
    (aM2 : PySem.W.findIn K (.ref C) "sequence" = some (some (.ref e2))) (iM2 : PySem.W.isFn K (.ref e2) = true) (lM2 : K.lookup e2 = some ⟨xo2, xd2, .func (PySem.W.fnOf "sequence" "Words.sequence" (defArgs sWSeq) (defBody sWSeq) (defScope sWSeq) .none xk2 xe2 xp2 xn2 xc2 xt2), xs2⟩) (cM2 : PySem.W.codeIn K xc2 "Words.sequence" = true) (kM2 : PySem.W.keepIn K (.ref e2) = true)
    (aM3 : PySem.W.findIn K (.ref C) "part" = some (some (.ref e3))) (iM3 : PySem.W.isFn K (.ref e3) = true) (lM3 : K.lookup e3 = some ⟨xo3, xd3, .func (PySem.W.fnOf "part" "Words.part" (defArgs sWPart) (defBody sWPart) (defScope sWPart) .none xk3 xe3 xp3 xn3 xc3 xt3), xs3⟩) (cM3 : PySem.W.codeIn K xc3 "Words.part" = true) (kM3 : PySem.W.keepIn K (.ref e3) = true)
    (pg : PySem.W.plainGet K C Str.empty = true) (hd : PySem.W.hasDictIn K C = true) (po : PySem.W.plainOver K C = true) (sa : PySem.W.findIn K (.ref C) "__setattr__" = some (some (.builtin "object.__setattr__"))) (mk : PySem.W.makesIn K C = true) (kc : PySem.W.keepIn K (.ref C) = true)
    (nW : PySem.W.findIn K (.ref C) "words" = some none) (nA : PySem.W.findIn K (.ref C) "at" = some none)
    (aB : PySem.W.nsIn K mainGlobals "BadSource" = some (some (.ref CB))) (lC : K.lookup CB = some (excClassObj nm q5 CB N5 bs5 bm5 true sn5 sub5 ab5 col5 dd5 kk0 kk1 kk2 kk3 kk5 "ValueError.__new__")) (rC : PySem.HandSPX.refsVE bm5 = true) (sC : PySem.W.findIn K (.ref CB) "__setattr__" = some (some (.builtin "object.__setattr__"))) (eC : PySem.W.subIn K (.ref CB) (.type "BaseException") = some true) (tC5 : PySem.W.typeIn K (.ref CB) = some (.type "type")) (kC5 : PySem.W.keepIn K (.ref CB) = true) (nB5 : PySem.W.findIn K (.ref CB) "row" = some none) (iB : PySem.W.findIn K (.ref CB) "__init__" = some (some (.ref fBI))) (tB : PySem.W.typeIn K (.ref fBI) = some (.type "function"))
    (lB : K.lookup fBI = some ⟨bo, bd, .func (PySem.W.fnOf "__init__" "BadSource.__init__" (defArgs sBadI) (defBody sBadI) (defScope sBadI) .none bk be bp bn bc bt), bs'⟩) (cB : PySem.W.codeIn K bc "BadSource.__init__" = true) (kB : PySem.W.keepIn K (.ref fBI) = true) (xB5 : xfB K CB = true) (mB : PySem.W.exmOne K (.ref CB) (.ref CB) = some true)
    (v0 : PySem.W.nsIn K mainGlobals "LETTERS" = some (some (.str abc t0)))
    (v1 : PySem.W.nsIn K mainGlobals "MOST_LETTERS" = some (some (.int 8 t1)))
    (v2 : PySem.W.nsIn K mainGlobals "MOST_LEAVES" = some (some (.int 16 t2)))
    (v3 : PySem.W.nsIn K mainGlobals "MOST_LEVELS" = some (some (.int 8 t3)))
    (v4 : PySem.W.nsIn K mainGlobals "MOST_PARTS" = some (some (.int 6 t4)))
    (v5 : PySem.W.nsIn K mainGlobals "BAR" = some (some (.str "|" t5)))
    (w0 : PySem.W.nsIn K mainGlobals "LEAF_KINDS" = some (some (.ref u0))) (x0 : K.lookup u0 = some ⟨.type "tuple", ud0, .seq #[.str "token" ut0_0, .str "block" ut0_1] un0, us0⟩)
    (w1 : PySem.W.nsIn K mainGlobals "CLOSING" = some (some (.ref u1))) (x1 : K.lookup u1 = some ⟨.type "tuple", ud1, .seq #[.str ")" ut1_0, .str "}" ut1_1, .str "]" ut1_2] un1, us1⟩)
    (wB : PySem.W.nsIn K mainGlobals "BRACKETS" = some (some (.ref uB))) (xB : K.lookup uB = some ⟨.type "dict", none, .dict #[⟨hB0, .str "(" tB0, .str "" tV0⟩, ⟨hB1, .str "{" tB1, .str "repeat" tV1⟩, ⟨hB2, .str "[" tB2, .str "optional" tV2⟩] nB, #[]⟩)
    (yB0 : hB0 = PyData.keyHash w.params "(") (yB1 : hB1 = PyData.keyHash w.params "{") (yB2 : hB2 = PyData.keyHash w.params "[") (sB : (uB == sysModules) = false)
    (z0 : PySem.W.nsIn K mainGlobals "isinstance" = some none)
    (z1 : PySem.W.nsIn K mainGlobals "str" = some none)
    (z2 : PySem.W.nsIn K mainGlobals "len" = some none)
    (z3 : PySem.W.nsIn K mainGlobals "all" = some none)
    (z4 : PySem.W.nsIn K mainGlobals "tuple" = some none)
    (z5 : PySem.W.nsIn K mainGlobals "int" = some none)
    (z6 : PySem.W.nsIn K mainGlobals "range" = some none)
    (z7 : PySem.W.nsIn K mainGlobals "abs" = some none)
    (z8 : PySem.W.nsIn K mainGlobals "max" = some none)
    (z9 : PySem.W.nsIn K mainGlobals "min" = some none) :
    LawAtS l w K CX0 35 63 "_law_script" mg fa h := by
  have e := hfa.symm.trans (PySem.W.mg_of X G a20)
  cases e
  have F0 := fun_mk (st := sShow) l0 c0 k0
  have F1 := fun_mk (st := sPart) l1 c1 k1
  have F2 := fun_mk (st := sTok) l2 c2 k2
  have F3 := fun_mk (st := sIsE) l3 c3 k3
  have F4 := fun_mk (st := sCnt) l4 c4 k4
  have F5 := fun_mk (st := sFit) l5 c5 k5
  have F6 := fun_mk (st := sJoin) l6 c6 k6
  have F7 := fun_mk (st := sLeaf) l7 c7 k7
  have F8 := fun_mk (st := sExOf) l8 c8 k8
  have F9 := fun_mk (st := sRead) l9 c9 k9
  have F10 := fun_mk (st := sPot) l10 c10 k10
  have F11 := fun_mk (st := sTake) l11 c11 k11
  have F12 := fun_mk (st := sOf) l12 c12 k12
  have F13 := fun_mk (st := sNames) l13 c13 k13
  have F14 := fun_mk (st := sExpr) l14 c14 k14
  have F15 := fun_mk (st := sWrit) l15 c15 k15
  have F16 := fun_mk (st := sBad) l16 c16 k16
  have F17 := fun_mk (st := sWrong) l17 c17 k17
  have F18 := fun_mk (st := sBent) l18 c18 k18
  have FC19 : FunC K "_law_right" "_law_right" sRight _ _ cc19 := ⟨⟨_, _, _, _, _, _, _, _, rfl, l19, c19⟩, k19⟩
  have F19 := FC19.plain
  have FC20 : FunC K "law" "law" sLaw _ _ cc20 := ⟨⟨_, _, _, _, _, _, _, _, rfl, l20, c20⟩, k20⟩
  have F20 := FC20.plain
  have g0 := PySem.W.mg_of X G a0
  have g1 := PySem.W.mg_of X G a1
  have g2 := PySem.W.mg_of X G a2
  have g3 := PySem.W.mg_of X G a3
  have g4 := PySem.W.mg_of X G a4
  have g5 := PySem.W.mg_of X G a5
  have g6 := PySem.W.mg_of X G a6
  have g7 := PySem.W.mg_of X G a7
  have g8 := PySem.W.mg_of X G a8
  have g9 := PySem.W.mg_of X G a9
  have g10 := PySem.W.mg_of X G a10
  have g11 := PySem.W.mg_of X G a11
  have g12 := PySem.W.mg_of X G a12
  have g13 := PySem.W.mg_of X G a13
  have g14 := PySem.W.mg_of X G a14
  have g15 := PySem.W.mg_of X G a15
  have g16 := PySem.W.mg_of X G a16
  have g17 := PySem.W.mg_of X G a17
  have g18 := PySem.W.mg_of X G a18
  have g19 := PySem.W.mg_of X G a19
  have M0 := fun_mk (st := sWI) lM0 cM0 kM0
  have M1 := fun_mk (st := sWCho) lM1 cM1 kM1
  have M2 := fun_mk (st := sWSeq) lM2 cM2 kM2
  have M3 := fun_mk (st := sWPart) lM3 cM3 kM3
  have q0 := PySem.W.mg_of X G v0
  have q1 := PySem.W.mg_of X G v1
  have q2 := PySem.W.mg_of X G v2
  have q3 := PySem.W.mg_of X G v3
  have q4 := PySem.W.mg_of X G v4
  have q5 := PySem.W.mg_of X G v5
  have nisinstance := PySem.W.mg_none_of X G z0
  have nstr := PySem.W.mg_none_of X G z1
  have nlen := PySem.W.mg_none_of X G z2
  have nall := PySem.W.mg_none_of X G z3
  have ntuple := PySem.W.mg_none_of X G z4
  have nint := PySem.W.mg_none_of X G z5
  have nrange := PySem.W.mg_none_of X G z6
  have nabs := PySem.W.mg_none_of X G z7
  have nmax := PySem.W.mg_none_of X G z8
  have nmin := PySem.W.mg_none_of X G z9
  have kinds : ∀ H, SqT K H u0 [.str "token", .str "block"] := fun _ => .inr ⟨_, _, _, x0, rfl, rfl, by show 2 ≤ sizeLine; decide, (.cons ⟨_, rfl⟩ (.cons ⟨_, rfl⟩ .nil))⟩
  have clos : ∀ H, SqT K H u1 (wvs [")", "}", "]"]) := fun _ => .inr ⟨_, _, _, x1, rfl, rfl, by show 3 ≤ sizeLine; decide, (.cons ⟨_, rfl⟩ (.cons ⟨_, rfl⟩ (.cons ⟨_, rfl⟩ .nil)))⟩
  have T : WoC K mg w C e0 e1 e2 e3 _ _ _ _ f2 f6 f7 uB u1 _ _ _ := ⟨⟨pg, hd, po, sa⟩, nW, nA, PySem.W.mg_of X G aC, ⟨mk, aM0, iM0, kc⟩, M0, M1, M2, M3, ⟨aM1, iM1, kM1⟩, ⟨aM2, iM2, kM2⟩, ⟨aM3, iM3, kM3⟩, F2, F6, F7, g2, g6, g7, PySem.W.mg_of X G wB, br_at xB yB0 yB1 yB2 sB, PySem.W.mg_of X G w1, clos, ⟨_, q5⟩, ⟨_, q0⟩, ⟨_, q1⟩, nisinstance, nstr, nlen, nall, ntuple⟩
  have TB : BadC K mg CB fBI _ := ⟨PySem.W.mg_of X G aB, ⟨⟨_, _, _, _, _, _, _, _, _, _, _, _, _, _, _, lC, rC⟩, sC, eC, tC5, kC5⟩, nB5, iB, tB, fun_mk (st := sBadI) lB cB kB, xfB_ok xB5, mB⟩
  have bTk : L2.Binds K _ ["value"] [] := F2.binds fun _ _ _ _ _ _ us hl => match us, hl with | [_], _ => rfl
  have bFt : L2.Binds K _ ["value"] [] := F5.binds fun _ _ _ _ _ _ us hl => match us, hl with | [_], _ => rfl
  have bCn : L2.Binds K _ ["value", "levels"] [] := F4.binds fun _ _ _ _ _ _ us hl => match us, hl with | [_, _], _ => rfl
  have bIs : L2.Binds K _ ["value"] [] := F3.binds fun _ _ _ _ _ _ us hl => match us, hl with | [_], _ => rfl
  have bSh : L2.Binds K _ ["expression"] [] := F0.binds fun _ _ _ _ _ _ us hl => match us, hl with | [_], _ => rfl
  have bXo : L2.Binds K _ ["source"] [] := F8.binds fun _ _ _ _ _ _ us hl => match us, hl with | [_], _ => rfl
  have bTa : L2.Binds K _ ["_law_pot_here", "_law_many"] [] := F11.binds fun _ _ _ _ _ _ us hl => match us, hl with | [_, _], _ => rfl
  have bOf : L2.Binds K _ ["_law_pot_here", "_law_some"] [] := F12.binds fun _ _ _ _ _ _ us hl => match us, hl with | [_, _], _ => rfl
  have bEx : L2.Binds K _ ["_law_pot_here", "_law_words", "_law_depth"] [] := F14.binds fun _ _ _ _ _ _ us hl => match us, hl with | [_, _, _], _ => rfl
  have bWr : L2.Binds K _ ["_law_expr_here"] [] := F15.binds fun _ _ _ _ _ _ us hl => match us, hl with | [_], _ => rfl
  let TT : List (Addr × Str) := [(pp19, "_law_right.<locals>.<lambda>"), (pp20, "law.<locals>.<lambda>")]
  refine ⟨PySem.W.fnOf "law" "law" (defArgs sLaw) (defBody sLaw) (defScope sLaw) .none kV20 dc20 pm20 an20 (.ref cc20) ct20, [(cc19, pp19), (cc20, pp20)], spLaw K TT, ?_, ?_, ?_, fun s v => .of_eq rfl, fun H a ns _ _ hH hS => ⟨a, ns, rfl, hS, ?_, fun _ => rfl⟩, fun bs _ _ hTB => ?_⟩
  · exact fun p hp => by rcases List.mem_cons.mp hp with z | z; exact z ▸ e19'; exact List.mem_singleton.mp z ▸ e20'
  · exact fun p hp => by rcases List.mem_cons.mp hp with z | z; exact z ▸ m19; exact List.mem_singleton.mp z ▸ m20
  · exact fun p hp => by rcases List.mem_cons.mp hp with z | z; exact z ▸ PySem.W.codeHd_of_K X h19; exact List.mem_singleton.mp z ▸ PySem.W.codeHd_of_K X h20
  · exact fun p hp => by rcases List.mem_cons.mp hp with z | z; exact z ▸ TabS.nil (hH (cc19, pp19) (List.mem_cons_self ..)); exact List.mem_singleton.mp z ▸ TabS.nil (hH (cc20, pp20) (List.mem_cons_of_mem _ (List.mem_cons_self ..)))
  have tA := hTB (cc19, pp19) (List.mem_cons_self ..)
  have tL := hTB (cc20, pp20) (List.mem_cons_of_mem _ (List.mem_cons_self ..))
  have GIs : FnOk l.prog w K mg bs CX0 11 f3 _ ["value"] spIsE := ok_isE F3 (ok_cnt F4 bCn g4 F2.kp (fun k => ok_tok F2 nisinstance nstr nlen nall q0 q1) bTk g2 F5.kp (fun k => ok_fit F5 nlen q4) bFt g5 nisinstance ntuple nlen (PySem.W.mg_of X G w0) kinds q2 9) bCn g4 F4.kp q3 q2
  have GSh : FnOk l.prog w K mg bs CX0 17 f0 _ ["expression"] (spShow 8) := ok_show F0 bSh g0 F1 g1 8
  have GXo : FnOk l.prog w K mg bs CX0 30 f8 _ ["source"] spExO := ok_exOf (k := 0) T F8 (GIs.mono (by decide)) bIs g3 F3.kp (GSh.mono (by decide)) bSh g0 F0.kp q3
  have GRd : FnOk l.prog w K mg bs (L2.CX l.prog w) 31 f9 _ ["source"] (spReadX CB) := ok_readX (k := 28) F9 GXo bXo g8 F8.kp TB nisinstance nstr
  have GWr : FnOk l.prog w K mg bs CX0 9 f15 _ ["_law_expr_here"] (spShow 8) := ok_writ F15 bWr g15 nint 8
  have GRt : FnOk l.prog w K mg bs CX0 34 f19 _ ["_law_shown"] (spSrc TT) := ok_right (k := 31) FC19 TB F9 g9 GRd F16 g16 F3 g3 (GIs.mono (by decide)) F15 g15 (GWr.mono (by decide)) tA (List.mem_cons_self ..) (fun p hp z => by rcases List.mem_cons.mp hp with y | y; (rw [y]); (rw [List.mem_singleton.mp y] at z; exact absurd z.symm ne))
  have GEx : FnOk l.prog w K mg bs CX0 6 f14 _ ["_law_pot_here", "_law_words", "_law_depth"] (spEx 3) := ok_expr F14 bEx g14 F11 bTa g11 F12 bOf g12 nlen nrange ntuple 3
  exact ok_law FC20 TB F9 g9 (GRd.mono (by decide)) F16 g16 F10 g10 (ok_pot (k := 33) F10 nlen nabs nint) F13 g13 (ok_names (k := 31) F13 F11 bTa g11 F12 bOf g12 nlen nrange) F14 g14 (GEx.mono (by decide)) F15 g15 (GWr.mono (by decide)) F17 g17 (ok_wrong (k := 33) F17) F18 g18 (ok_bent (k := 31) F18 F11 bTa g11 F12 bOf g12 nlen) F19 g19 GRt tL (List.mem_cons_of_mem _ (List.mem_cons_self ..)) (fun p hp z => by rcases List.mem_cons.mp hp with y | y; (rw [y] at z; exact absurd z ne); (rw [List.mem_singleton.mp y])) nrange nmax nmin nlen
end K52
open PySem PySem.W PyProof.Rows
set_option maxHeartbeats 0 in
theorem PySem.Challenge.cw_errorspans_k52_sources_that_are_none_holds : PySem.Challenge.rw_errorspans_k52_sources_that_are_none.Holds := by
  w_on; o_law; k_head; (case hw => w_witness2)
  k_fill
  refine LamX.walk_ofTs (l := PySem.Challenge.rw_errorspans_k52_sources_that_are_none) (n := 63) (k := 35) (x := "_law_script") (CX := fun _ => L2.CX0) rfl (by decide) rfl ⟨rfl, by decide, by decide⟩ (fun w h Y => PySem.W.km_in_of Y) ?F (fun _ _ _ _ _ z => z)
  case F =>
    intro w mg fa h Y KX G hmg
    refine' K52.all_mk KX G hmg ?a0 ?l0 ?c0 ?k0 ?a1 ?l1 ?c1 ?k1 ?a2 ?l2 ?c2 ?k2 ?a3 ?l3 ?c3 ?k3 ?a4 ?l4 ?c4 ?k4 ?a5 ?l5 ?c5 ?k5 ?a6 ?l6 ?c6 ?k6 ?a7 ?l7 ?c7 ?k7 ?a8 ?l8 ?c8 ?k8 ?a9 ?l9 ?c9 ?k9 ?a10 ?l10 ?c10 ?k10 ?a11 ?l11 ?c11 ?k11 ?a12 ?l12 ?c12 ?k12 ?a13 ?l13 ?c13 ?k13 ?a14 ?l14 ?c14 ?k14 ?a15 ?l15 ?c15 ?k15 ?a16 ?l16 ?c16 ?k16 ?a17 ?l17 ?c17 ?k17 ?a18 ?l18 ?c18 ?k18 ?a19 ?l19 ?c19 ?k19 ?h19 ?m19 ?e19' ?a20 ?l20 ?c20 ?k20 ?h20 ?m20 ?e20' ?ne ?aC ?aM0 ?iM0 ?lM0 ?cM0 ?kM0 ?aM1 ?iM1 ?lM1 ?cM1 ?kM1 ?aM2 ?iM2 ?lM2 ?cM2 ?kM2 ?aM3 ?iM3 ?lM3 ?cM3 ?kM3 ?pg ?hd ?po ?sa ?mk ?kc ?nW ?nA ?aB ?lC ?rC ?sC ?eC ?tC5 ?kC5 ?nB5 ?iB ?tB ?lB ?cB ?kB ?xB5 ?mB ?v0 ?v1 ?v2 ?v3 ?v4 ?v5 ?w0 ?x0 ?w1 ?x1 ?wB ?xB ?yB0 ?yB1 ?yB2 ?sB ?z0 ?z1 ?z2 ?z3 ?z4 ?z5 ?z6 ?z7 ?z8 ?z9
    (case a0 => k_is); (case l0 => k_is); (case c0 => k_is); (case k0 => k_is); (case a1 => k_is); (case l1 => k_is); (case c1 => k_is); (case k1 => k_is)
    (case a2 => k_is); (case l2 => k_is); (case c2 => k_is); (case k2 => k_is); (case a3 => k_is); (case l3 => k_is); (case c3 => k_is); (case k3 => k_is)
    (case a4 => k_is); (case l4 => k_is); (case c4 => k_is); (case k4 => k_is); (case a5 => k_is); (case l5 => k_is); (case c5 => k_is); (case k5 => k_is)
    (case a6 => k_is); (case l6 => k_is); (case c6 => k_is); (case k6 => k_is); (case a7 => k_is); (case l7 => k_is); (case c7 => k_is); (case k7 => k_is)
    (case a8 => k_is); (case l8 => k_is); (case c8 => k_is); (case k8 => k_is); (case a9 => k_is); (case l9 => k_is); (case c9 => k_is); (case k9 => k_is)
    (case a10 => k_is); (case l10 => k_is); (case c10 => k_is); (case k10 => k_is); (case a11 => k_is); (case l11 => k_is); (case c11 => k_is); (case k11 => k_is)
    (case a12 => k_is); (case l12 => k_is); (case c12 => k_is); (case k12 => k_is); (case a13 => k_is); (case l13 => k_is); (case c13 => k_is); (case k13 => k_is)
    (case a14 => k_is); (case l14 => k_is); (case c14 => k_is); (case k14 => k_is); (case a15 => k_is); (case l15 => k_is); (case c15 => k_is); (case k15 => k_is)
    (case a16 => k_is); (case l16 => k_is); (case c16 => k_is); (case k16 => k_is); (case a17 => k_is); (case l17 => k_is); (case c17 => k_is); (case k17 => k_is)
    (case a18 => k_is); (case l18 => k_is); (case c18 => k_is); (case k18 => k_is); (case a19 => k_is); (case l19 => k_is); (case c19 => k_is); (case k19 => k_is)
    (case e19' => exact PySem.W.km_tabs_of Y _ (List.Mem.head _)); (case a20 => k_is); (case l20 => k_is); (case c20 => k_is); (case k20 => k_is); (case e20' => exact PySem.W.km_tabs_of Y _ (List.Mem.tail _ (List.Mem.head _))); (case aC => k_is); (case aM0 => k_is)
    (case iM0 => k_is); (case lM0 => k_is); (case cM0 => k_is); (case kM0 => k_is); (case aM1 => k_is); (case iM1 => k_is); (case lM1 => k_is); (case cM1 => k_is)
    (case kM1 => k_is); (case aM2 => k_is); (case iM2 => k_is); (case lM2 => k_is); (case cM2 => k_is); (case kM2 => k_is); (case aM3 => k_is); (case iM3 => k_is)
    (case lM3 => k_is); (case cM3 => k_is); (case kM3 => k_is); (case pg => k_is); (case hd => k_is); (case po => k_is); (case sa => k_is); (case mk => k_is)
    (case kc => k_is); (case nW => k_is); (case nA => k_is); (case aB => k_is); (case lC => k_is); (case rC => kernel_rfl); (case sC => k_is); (case eC => first | k_is | kernel_rfl)
    (case tC5 => first | k_is | kernel_rfl); (case kC5 => k_is); (case nB5 => k_is); (case iB => k_is); (case tB => first | k_is | kernel_rfl); (case lB => k_is); (case cB => k_is); (case kB => k_is)
    (case xB5 => kernel_rfl); (case mB => first | k_is | kernel_rfl); (case v0 => k_is); (case v1 => k_is); (case v2 => k_is); (case v3 => k_is); (case v4 => k_is); (case v5 => k_is)
    (case w0 => k_is); (case x0 => k_is); (case w1 => k_is); (case x1 => k_is); (case wB => k_is); (case xB => k_is); (case yB0 => rfl); (case yB1 => rfl)
    (case yB2 => rfl); (case sB => rfl); (case z0 => k_is); (case z1 => k_is); (case z2 => k_is); (case z3 => k_is); (case z4 => k_is); (case z5 => k_is)
    (case z6 => k_is); (case z7 => k_is); (case z8 => k_is); (case z9 => k_is); (case h19 => kernel_rfl); (case m19 => kernel_rfl); (case h20 => kernel_rfl); (case m20 => kernel_rfl)
    (case ne => decide)
