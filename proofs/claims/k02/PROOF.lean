import PyProof.Rows.All
import Wide.All
import OpenK.AllK
import Wide.FinOn
import HandS.ForMost
import HandS.IsInst
import HandS.Evl
import HandS.Walk
import KE.GoesEnum
import HandS.TupAny
import HandS.Style
import HandS.TupMul
import PySem.Challenge.RW_errorspans_k02_expressions_of_any_value
set_option Elab.async false
set_option linter.all false
set_option maxRecDepth 100000
set_option maxHeartbeats 2000000
namespace Es
open PySem PySem.Spec PyProof.Rows L2 Evl
section
variable {X : Cx}
/-- repr of a truth value -/
theorem cr_reprB : CallR X (.builtin "repr") (fun xs H Q => ∃ b : Bool, xs = [.bl b] ∧ Q (.str (if b then "True" else "False")) H) := by
  intro pins s σ H xs us Q I r h
  obtain ⟨b, rfl, q⟩ := h
  obtain ⟨u, rfl, ru⟩ := vals1 r
  obtain rfl : u = Value.bool b := ru
  exact PySem.P.repr_of_bool ⟨.str _, H, I.tok _, ⟨_, rfl⟩, q⟩
/-- repr of data that lies at an address -/
theorem cr_reprD (hg : X.A.guards = some []) (hu : X.A.units + 64 < cLine) : CallR X (.builtin "repr")
    (fun xs H Q => ∃ (a : Addr) (d : PyData), xs = [.ref a] ∧ Dp X.K H (.ref a) d ∧ d.showable = true ∧ d.hasDict = false ∧ d.depth ≤ 60 ∧ d.shown.length ≤ sizeLine ∧ Q (.str d.shown) H) := by
  intro pins s σ H xs us Q I r h
  obtain ⟨a, d, rfl, hd, hs, hn, hdp, hz, q⟩ := h
  obtain ⟨u, rfl, ru⟩ := vals1 r
  obtain rfl : u = Value.ref a := ru
  obtain ⟨as, rd⟩ := Dp.reads I d _ _ hd rfl
  refine repr_of_reads' rd hs (fun z => ?_) hg (by omega) (fun _ _ e => e) (fun h' u tk hk => ?_) hz
  · rw [hn] at z; cases z
  · exact ⟨.str d.shown, H, I.kept (t' := tk) hk, ⟨_, rfl⟩, q⟩
/-- powers of great numbers -/
def CPowW (i j : Int) : Prop := 0 ≤ j ∧ (Builtin.Int.intBits i : Int) * j ≤ 2 ^ 27
theorem op_powW : OpR X (binaryOp .Pow) (rI CPowW fun i j => .int (i ^ j.toNat)) := opI fun _ _ _ _ _ _ _ hc q => pow_int hc.1 hc.2 q
end
/-- a def's promise, given where no repr is under way -/
structure GnOk (P : Program) (w : World) (K : PySem.W.Frag) (mg : Str → Option Value) (bs : Heap) (k : Nat) (f : Addr) (fd : FuncData) (ps : List Str) (sp : Sp) : Prop where
  len : ∀ vs H Q E, sp vs H Q E → vs.length = ps.length
  run : ∀ (A : Around) (out : List Env) (s : Shared) (H : Hp) (ar : Args) (us : List Value) (vs : List V) (Q : VK) (E : XK), A.guards = some [] → Room k A →
    Env0 P w K mg bs A out s H → BindsTo s fd ar (ps.zip us) → Vals vs us → sp vs H Q E → codeAny (model P w) A (.call (.ref f) ar) (CR CX0 out P w H s Q E) s
section
variable {P : Program} {w : World} {K : PySem.W.Frag} {mg : Str → Option Value} {bs : Heap} {k : Nat} {f : Addr} {fd : FuncData} {ps : List Str} {sp : Sp}
theorem GnOk.ofF (F : FnOk P w K mg bs CX0 k f fd ps sp) : GnOk P w K mg bs k f fd ps sp := ⟨F.len, fun A out s H ar us vs Q E _ => F.run A out s H ar us vs Q E⟩
theorem GnOk.mono {j : Nat} (F : GnOk P w K mg bs j f fd ps sp) (h : j ≤ k) : GnOk P w K mg bs k f fd ps sp := ⟨F.len, fun A out s H ar us vs Q E g hr => F.run A out s H ar us vs Q E g (hr.mono h)⟩
theorem gn_of {x qual : Str} {st : Stmt} {N : List Str} (F : Fun K x qual st f fd) (S : FnScope N ps (defScope st)) (len : ∀ vs H Q E, sp vs H Q E → vs.length = ps.length)
    (hb : ∀ (cd : Value) (A : Around) (out : List Env) (s : Shared) (H : Hp) (vs : List V) (Q : VK) (E : XK), A.guards = some [] → Room k (A.deeper (envOfC qual (defScope st) s.heap.objs.size f cd)) →
      sp vs H Q E → ∃ t, PSs (cxOf CX0 P w K mg bs N qual (defScope st) f cd A out s H E).nox (defBody st) t ∧ t { nx := fun _ H' => Q .non H', rt := Q } (start N vs) H) :
    GnOk P w K mg bs (k + 1) f fd ps sp := by
  obtain ⟨oc, od, kV, dc, pm, an, cd, ct, sl, rfl, lk, hcd⟩ := F.ex
  refine ⟨len, ?_⟩
  intro A out s H ar us vs Q E g hr e0 hbd rv hs
  have up := fun b o (e : bs.get? b = some o) => (e0.bs b o e).1
  have kin := e0.mod.kin.keeps up
  have ln := len _ _ _ _ hs
  obtain ⟨t, ht, hq⟩ := hb cd A out s H vs Q E g (hr.deeper _) hs
  have hk : ∀ y ∈ ps.zip us, (defScope st).names.lookup y.1 = some .local ∨ ((defScope st).names.lookup y.1 = some .cell ∧ ((cellsFrom (s.heap.objs.size + 1) (defScope st).names []).lookup y.1).isSome = true) := by
    intro ⟨n, v⟩ hy
    rcases S.par n (List.of_mem_zip hy).1 with q | q
    · exact Or.inl q
    · exact Or.inr ⟨q, PySem.W.cellsFrom_some _ _ _ (.inl q)⟩
  refine codeAny_call_function hr.depth (kin _ _ lk) rfl S.co S.gen rfl (PySem.W.codeRec_of kin hcd) (hbd _ _ _ _ ?_)
  refine wpAny_newFunctionEnv_cells S.kind hk ?_
  intro en he s1 x
  subst he
  refine ⟨(e0.mod.nolimit.keeps up).keeps x.toInCall.keep, codeAny_func ?_⟩
  have I := inv_start (CX := CX0) (P := P) (w := w) (K := K) (mg := mg) (base := bs) (E := E) S hr.hd e0 ln rv x
  refine wpAny_mono (ht.nox.run [] s1 (start N vs) H _ I hq) ?_ (fun e s' hs => hs)
  intro fl s' z
  have fin : ∀ {σ' : L2.St} {H' : Hp} {v : V} {u : Value}, Inv (cxOf CX0 P w K mg bs N qual (defScope st) f cd A out s H E) [] σ' H' s' → RelV v u → Q v H' → CE out P w H s Q u s' :=
    fun J r q => ⟨_, _, J.os, J.bare, J.base, J.hok, r, q⟩
  match fl, z with
  | .ret u, ⟨v, σ', H', J, r, q⟩ => exact fin J r q
  | .next, ⟨σ', H', J, q⟩ => exact fin (v := V.non) (u := Value.none) J rfl q
  | .brk, ⟨_, _, _, q⟩ => exact q.elim
  | .cont, ⟨_, _, _, q⟩ => exact q.elim
end
section
variable {X : Cx} {k : Nat} {f : Addr} {fd : FuncData} {ps ks : List Str} {sp : Sp} {x : Str} {p pos : Pos} {e : Expr} {es : List Expr} {kws : List Keyword} {t tk : TA}
theorem run_gn {pins : List (Addr × Obj)} {σ : L2.St} {H : Hp} {s : Shared} {Q : VK} {us : List Value} {vs : List V} (F : GnOk X.prog X.w X.K X.mg X.base k f fd ps sp) (g : X.A.guards = some []) (hr : Room k X.A)
    (hb : Binds X.K fd ps []) (I : Inv X pins σ H s) (r : Vals vs us) (h : sp vs H Q E0) : wpAny (model X.prog X.w) X.A (call (.ref f) us) (EP X pins σ Q) X.xe s := by
  have ln := F.len _ _ _ _ h
  have hb' := hb s us I.kIn (by rw [List.append_nil, ← r.length]; exact ln)
  rw [List.append_nil] at hb'
  refine wpAny_call (codeAny_mono (F.run X.A X.stack s H ⟨us, []⟩ us vs Q E0 g hr I.env0 hb' r h) ?_)
  intro rs s' z
  match rs, z with
  | .ok (.ret u), z => exact I.after z
def tCallG (sp : Sp) (t : TA) : TE := fun σ H Q => t σ H fun vs H1 => sp vs H1 Q E0
/-- f(e, ..), f one that may ask for a repr -/
theorem pe_callG (F : GnOk X.prog X.w X.K X.mg X.base k f fd ps sp) (g : X.A.guards = some []) (hr : Room k X.A) (hg : Gl X x) (hm : X.mg x = some (.ref f)) (hk : PySem.W.keepIn X.K (.ref f) = true)
    (hb : Binds X.K fd ps []) (ha : PA X (e :: es) t) (hdb : (x == ("__debug__" : Str)) = false := by decide)
    (he : starEach (e :: es) X.env = (false, eval e X.env) :: starEach es X.env := by rfl) (hpl : (backTo pos (starEach es X.env)).any (·.1) = false := by rfl) :
    PE X (.Call (.Name x p) (e :: es) [] pos) (tCallG sp t) := by
  refine ⟨?_⟩
  intro pins s σ H Q I h
  refine wpAny_Call_Name_kw (ld_glob I hg hm ?_ hdb)
  refine PySem.W.callWith_K (h₀ := X.base) I.ok.mod.kin hk (thn (ha.run pos pins s σ H _ I h) ?_) he hpl
  rintro us s1 ⟨vs, H1, I1, r, q⟩
  exact ⟨I1.kIn, run_gn F g hr hb I1 r q⟩
/-- f(k = v, ..): keywords alone -/
theorem pe_callK0 {gg : List Value → List Value → List Value} {gV : List V → List V → List V} (F : FnOk X.prog X.w X.K X.mg X.base CX0 k f fd ps sp) (hr : Room k X.A) (hg : Gl X x) (hm : X.mg x = some (.ref f)) (hk : PySem.W.keepIn X.K (.ref f) = true)
    (hb : KBinds X.K fd ps ks gg gV) (hkw : PK X kws tk) (hall : (backToKw pos (keywordEach kws X.env)).all (·.1.isSome) = true := by rfl) (hks : (backToKw pos (keywordEach kws X.env)).filterMap (·.1) = ks := by rfl)
    (hdb : (x == ("__debug__" : Str)) = false := by decide) (hpl : ((backTo pos (starEach [] X.env)).any (·.1) || (backToKw pos (keywordEach kws X.env)).any (·.1.isNone)) = false := by rfl) :
    PE X (.Call (.Name x p) [] kws pos) (fun σ H Q => tk σ H fun zs H1 => sp (gV [] zs) H1 Q E0) := by
  refine ⟨?_⟩
  intro pins s σ H Q I h
  refine wpAny_Call_Name_kw (ld_glob I hg hm ?_ hdb)
  refine PySem.W.callWith_KW0 (h₀ := X.base) I.ok.mod.kin hk hall (thn (hkw.run pos pins s σ H _ I h) ?_) hpl
  rintro ws s2 ⟨zs, H2, I2, rz, q2⟩
  refine ⟨I2.kIn, ?_⟩
  rw [hks]
  exact run_fnk F hr hb pass0 I2 .nil rz q2
end
/-! the law's own call -/
section
variable {P : Program} {w : World} {K : PySem.W.Frag} {mg mb : Str → Option Value} {k : Nat} {fa a : Addr} {fd : FuncData} {x : Str} {sp : Sp} {s1 : Shared} {vs : List Value} {ns : List Int}
def LawEnd (s1 : Shared) : Result → Shared → Prop := fun r s' => r = .ok (.ret (.bool true)) ∧ OldK s1.heap s'.heap ∧ s'.os = s1.os ∧ AllBare s'.gens
theorem law_core (KX : K.In s1.heap) (hns : s1.heap.Ns mainGlobals mg) (hb : s1.heap.Ns builtinsNs mb) (hbb : ∀ x : Str, x ≠ "__name__" → mb x = bootBuiltins x) (hlim : s1.heap.NoLimit) (hg : s1.gens = #[])
    (ha : s1.heap.get? a = some { cls := .type "list", data := .seq vs.toArray }) (hr : Room k callerA)
    (F : ∀ bs : Heap, K.In bs → bs.Ns mainGlobals mg → GnOk P w K mg bs k fa fd [x] sp) (hbd : ∀ (s : Shared) (u : Value), BindsTo s fd ⟨[u], []⟩ [(x, u)])
    (H : Hp) (hO : Only H) (hok : HOk P w H s1.heap) (hA : ∀ b, H b ≠ none → b = a) (hK : H a ≠ none → K.lookup a = none) (hs : sp [.ref a] H (fun v _ => v = .bl true) E0) :
    codeAny (model P w) callerA (.call (.ref fa) ⟨[.ref a], []⟩) (LawEnd s1) s1 := by
  have isA : ∀ {b : Addr} {u : HO}, H b = some u → b = a := fun q => hA _ (by rw [q]; simp)
  have nodict : ∀ {b : Addr} {o : Obj} {es : Array DictEntry} {ep : Nat}, s1.heap.get? b = some o → o.data = .dict es ep → H b = none := by
    intro b o es ep e d
    cases q : H b with
    | none => rfl
    | some u =>
      cases isA q
      rw [ha] at e
      cases e
      cases d
  have low : ∀ {b : Addr} {o : Obj}, s1.heap.get? b = some o → H b = none → (hidT s1.heap H).get? b = some o := fun e n => hidT_get e n
  have nsl : ∀ {b : Addr} {m : Str → Option Value}, s1.heap.Ns b m → (hidT s1.heap H).Ns b m := by
    rintro b m ⟨o, es, ep, e, d, r⟩
    exact ⟨o, es, ep, low e (nodict e d), d, r⟩
  have kl : K.In (hidT s1.heap H) := by
    intro b o e
    refine low (KX b o e) ?_
    cases q : H b with
    | none => rfl
    | some u =>
      cases isA q
      rw [hK (by rw [q]; simp)] at e
      cases e
  obtain ⟨mc, hm1, hm2⟩ := hlim
  have md : Mod K mg (hidT s1.heap H) := ⟨kl, nsl hns, ⟨mb, nsl hb, hbb⟩, ⟨mc, nsl hm1, hm2⟩⟩
  have e0 : Env0 P w K mg (hidT s1.heap H) callerA [] s1 H :=
    ⟨rfl, md, fun b o e => of_hidT e, Nat.le_of_eq (hidT_size _ _), trivial, fun b z => absurd (show b ∈ ([] : List Addr) from z) (by simp), hok, .of_eq hg⟩
  refine codeAny_mono ((F _ kl (nsl hns)).run callerA [] s1 H ⟨[.ref a], []⟩ [.ref a] [.ref a] _ _ rfl hr e0 (hbd s1 (.ref a)) (.cons rfl .nil) hs) ?_
  intro r s' z
  match r, z with
  | .ok (.ret u), ⟨v, H', os, bare, un, hok', rv, q⟩ =>
    cases (show v = .bl true from q)
    obtain rfl : u = Value.bool true := rv
    refine ⟨rfl, OldK.of_keep ?_, os, bare⟩
    intro b o e
    cases q : H b with
    | none => exact un.keep b o e q (by intro z; exact absurd (show b ∈ ([] : List Addr) from z) (by simp)) (by simp)
    | some u =>
      rcases hO b with z | ⟨ob, xs, z⟩
      · rw [q] at z
        cases z
      · obtain ⟨g1, _⟩ := hok b _ z
        obtain ⟨g2, _⟩ := hok' b _ (un.frzs b ob _ z)
        rw [e] at g1
        cases g1
        exact g2
theorem law_callG (KX : K.In s1.heap) (hns : s1.heap.Ns mainGlobals mg) (hb : s1.heap.Ns builtinsNs mb) (hbb : ∀ x : Str, x ≠ "__name__" → mb x = bootBuiltins x) (hlim : s1.heap.NoLimit) (hg : s1.gens = #[])
    (ha : s1.heap.get? a = some { cls := .type "list", data := .seq vs.toArray }) (hi : IntsAre vs ns) (hl : ns.length ≤ sizeLine) (hr : Room k callerA)
    (F : ∀ bs : Heap, K.In bs → bs.Ns mainGlobals mg → GnOk P w K mg bs k fa fd [x] sp) (hbd : ∀ (s : Shared) (u : Value), BindsTo s fd ⟨[u], []⟩ [(x, u)])
    (hsp : ∀ H : Hp, Only H → SqL K H a (ns.map V.int) → sp [.ref a] H (fun v _ => v = .bl true) E0) :
    codeAny (model P w) callerA (.call (.ref fa) ⟨[.ref a], []⟩) (LawEnd s1) s1 := by
  have rv := vals_ints hi
  cases hk : K.lookup a with
  | some o =>
    have e := KX a o hk
    rw [ha] at e
    cases e
    have hO : Only (fun _ => none) := fun _ => .inl rfl
    refine law_core KX hns hb hbb hlim hg ha hr F hbd (fun _ => none) hO (fun b u z => nomatch z) (fun b z => absurd rfl z) (fun z => absurd rfl z) (hsp _ hO ?_)
    exact .inr ⟨_, vs.toArray, _, hk, rfl, rfl, rfl, by rw [List.size_toArray, hi.length]; exact hl, by simpa using rv⟩
  | none =>
    let Z : Hp := fun b => if b = a then some (.frz { cls := .type "list", data := .seq vs.toArray } (.lst (ns.map V.int))) else none
    have hZ : Z a = some (.frz { cls := .type "list", data := .seq vs.toArray } (.lst (ns.map V.int))) := if_pos rfl
    have hZn : ∀ b, b ≠ a → Z b = none := fun b h => if_neg h
    have hO : Only Z := fun b => by
      by_cases h : b = a
      · subst h
        exact .inr ⟨_, _, hZ⟩
      · exact .inl (hZn b h)
    refine law_core KX hns hb hbb hlim hg ha hr F hbd Z hO (fun b u z => ?_) (fun b z => ?_) (fun _ => hk) (hsp Z hO (.inl (.inr ⟨_, hZ⟩)))
    · by_cases h : b = a
      · subst h
        rw [hZ] at z
        cases z
        exact ⟨ha, by rw [List.length_map]; exact hl, vs, _, rv, ha⟩
      · rw [hZn b h] at z
        cases z
    · by_cases h : b = a
      · exact h
      · exact absurd (hZn b h) z
end
theorem walk_ofG {l : PySem.W.OpenLaw} {n k : Nat} {q : Program} {loose : List Str} {XP : (Str → Option Value) → Heap → Prop} {YP : World → Heap → Prop} {d : DefRec} {K : Params → PySem.W.Frag} {sp : PySem.W.Frag → Sp} {x : Str}
    (hn : l.most = some n) (hn2 : n ≤ sizeLine) (hdf : d.params.defaults = []) (hr : Room k callerA) (hY : ∀ (w : World) (h : Heap), YP w h → (K w.params).In h)
    (F : ∀ (w : World) (mg : Str → Option Value) (fa : Addr) (h : Heap), (K w.params).In h → h.Ns mainGlobals mg → mg d.name = some (.ref fa) →
      ∃ fd : FuncData, (∀ (s : Shared) (u : Value), BindsTo s fd ⟨[u], []⟩ [(x, u)]) ∧
        ∀ bs : Heap, (K w.params).In bs → bs.Ns mainGlobals mg → GnOk l.prog w (K w.params) mg bs k fa fd [x] (sp (K w.params)))
    (hsp : ∀ (K : PySem.W.Frag) (H : Hp) (a : Addr) (ns : List Int), ns.length ≤ n → Only H → SqL K H a (ns.map V.int) → sp K [.ref a] H (fun v _ => v = .bl true) E0) :
    PySem.W.WalkO q loose XP YP l.row.toRowW d [] (fun f vs => PySem.call f vs) := by
  refine Att.attach_call hn hdf ?_
  intro w s0 s1 mg mb fa o pm cd dc a vs ns G Y ho hd hcd hmg hobj hints hlen hgn
  have KX := hY w _ Y
  obtain ⟨fd, hb, hF⟩ := F w mg fa _ KX G.T.g hmg
  exact law_callG KX G.T.g G.T.b G.T.builtins G.T.nolimit hgn hobj hints (Nat.le_trans hlen hn2) hr hF hb fun H hO hS => hsp _ H a ns hlen hO hS
end Es
namespace Es
open PySem PySem.Spec PyProof.Rows L2 Evl
section
variable {K : PySem.W.Frag} {σ : L2.St} {H H' : Hp} {ta tb tc te : TE} {x y z v w : V} {r r' : R2}
theorem ev_chain {k k' : Bool} (ha : Ev ta σ H x) (hb : Ev tb σ H y) (hr : RV r x y H (.bl k)) (hc : k = true → Ev tc σ H w) (hr' : k = true → RV r' y w H (.bl k')) : Ev (tChain r r' ta tb tc) σ H (.bl (k && k')) := by
  intro H1 e Q q
  refine ha H1 e _ fun H2 e2 => hb H2 (e.trans e2) _ fun H3 e3 => hr H3 ((e.trans e2).trans e3) _ fun H4 e4 => ⟨k, rfl, ?_⟩
  have e14 := (e2.trans e3).trans e4
  cases k with
  | true => exact hc rfl H4 (e.trans e14) _ fun H5 e5 => hr' rfl H5 ((e.trans e14).trans e5) Q fun H6 e6 => q H6 ((e14.trans e5).trans e6)
  | false => exact q H4 e14
/-- a text walked by a comprehension without tests, each sign giving f of it -/
theorem el_lcS {s : Str} {tl : TE} {j : Nat} {vs : List Nat} (f : Nat → V) (h : Ev tl σ H (.str s)) (hz : s.cps.size ≤ 40000) (hw : ∀ x, wipe ((wipe σ vs).set j (some x)) vs = wipe σ vs)
    (he : ∀ (c : Nat) H1, Ex H H1 → c ∈ s.cps.toList → Ev te ((wipe σ vs).set j (some (.str ⟨#[c]⟩))) H1 (f c)) :
    EvL (tLc (iStr tl) (gName j) tYes te vs) σ H (s.cps.toList.map f) := by
  intro H0 e Q q
  refine h H0 e _ fun H1 e1 => ⟨s, rfl, fun D hD => ?_⟩
  refine lc_it walk_str (fun i H' => Ex H1 H' ∧ H' D = some (.lst ((s.cps.toList.take i).map f))) ⟨Ex.new hD, upd_same⟩ (fun _ _ _ _ => trivial) (fun i x Ha Hb hi p y => ?_) (fun Hc p => ?_)
  · obtain ⟨rfl, c, hc, rfl⟩ := y
    refine ⟨hw _, ?_⟩
    show te _ Hb _
    have hm : s.cps.toList[i]? = some c := by rw [Array.getElem?_toList]; exact hc
    refine he c Hb ((e.trans e1).trans p.1) (List.mem_of_getElem? hm) Hb (Ex.refl _) _ fun Hc ec => ⟨_, ec D _ p.2, ?_, Ex.mut (p.1.trans ec) hD, ?_⟩
    · rw [List.length_map, List.length_take]
      exact sz_lt (by rw [Array.length_toList]; omega)
    · rw [upd_same, List.take_add_one, hm, List.map_append]
      rfl
  · have p2 := p.2
    rw [List.take_of_length_le (by rw [Array.length_toList]; exact Nat.le_refl _)] at p2
    exact q D Hc (fresh_back e1 hD) (e1.trans p.1) p2
theorem ev_cbL {r : List V → Hp → VK → Prop} {ta : TE} {xs : List V} (h : EvL ta σ H xs) (hr : ∀ p H1, H1 p = some (.lst xs) → Ex H H1 → RC r [.ref p] H1 z) : Ev (tCB r (tCons ta tNil)) σ H z := fun H1 e Q q =>
  h H1 e _ fun p H2 _ e2 hp => hr p H2 hp (e.trans e2) H2 (Ex.refl _) Q fun H3 e3 => q H3 (e2.trans e3)
/-- the values that a value of any kind may be -/
inductive Thing (H : Hp) : V → Prop
  | non : Thing H .non
  | bl (b : Bool) : Thing H (.bl b)
  | int (i : Int) : Thing H (.int i)
  | str (s : Str) : s.length ≤ 1000 → Thing H (.str s)
  | lst {a : Addr} {xs : List V} : H a = some (.lst xs) → Thing H (.ref a)
  | tup {a : Addr} {xs : List V} : H a = some (.tup xs) → Thing H (.ref a)
  | dK {a : Addr} {kvs : List (Key × V)} : H a = some (.dK kvs) → Thing H (.ref a)
theorem Thing.up (h : Thing H v) (e : Ex H H') : Thing H' v := by
  cases h with
  | non => exact .non
  | bl b => exact .bl b
  | int i => exact .int i
  | str s hs => exact .str s hs
  | lst h => exact .lst (e _ _ h)
  | tup h => exact .tup (e _ _ h)
  | dK h => exact .dK (e _ _ h)
def isS : V → Bool
  | .str _ => true
  | _ => false
theorem Thing.ty (h : Thing H v) : ∃ t : String, TyX K H v (.type t) ∧ kitB t "str" = some (isS v) := by
  cases h with
  | non => exact ⟨_, .base .non, show kitB "NoneType" "str" = some false by decide +kernel⟩
  | bl b => exact ⟨_, .base (.bl b), show kitB "bool" "str" = some false by decide +kernel⟩
  | int i => exact ⟨_, .base (.int i), show kitB "int" "str" = some false by decide +kernel⟩
  | str s hs => exact ⟨_, .base (.str s), show kitB "str" "str" = some true by decide +kernel⟩
  | lst h => exact ⟨_, .base (.lst h), show kitB "list" "str" = some false by decide +kernel⟩
  | tup h => exact ⟨_, .base (.tup h), show kitB "tuple" "str" = some false by decide +kernel⟩
  | dK h => exact ⟨_, .base (.dK h), show kitB "dict" "str" = some false by decide +kernel⟩
theorem Thing.isi (h : Thing H v) : RC (rIsi K) [v, .ty "str"] H (.bl (isS v)) := by
  intro H1 e Q q
  obtain ⟨t, h1, h2⟩ := (h.up e).ty (K := K)
  exact ⟨v, _, _, _, _, rfl, .ty _, h1, kit_ty h2, q H1 (Ex.refl _)⟩
def rLen1 (K : PySem.W.Frag) : List V → Hp → VK → Prop := fun xs H Q => ∃ x n, xs = [x] ∧ LenV K x H n ∧ Q (.int n) H
theorem rc_lenS {s : Str} (h : s.length ≤ 1000) : RC (rLen1 K) [.str s] H (.int (s.length : Int)) := fun H1 _ _ q => ⟨.str s, s.length, rfl, ⟨sz_of (by omega), rfl⟩, q H1 (Ex.refl _)⟩
theorem rc_all {p : Addr} {bs : List Bool} (h : H p = some (.lst (bs.map V.bl))) : RC (rAll K) [.ref p] H (.bl (bs.all id)) := fun H1 e _ q => ⟨p, bs, rfl, sq_of (e _ _ h), q H1 (Ex.refl _)⟩
theorem rc_any {p : Addr} {bs : List Bool} (h : H p = some (.lst (bs.map V.bl))) : RC (rAny K) [.ref p] H (.bl (bs.any id)) := fun H1 e _ q => ⟨p, bs, rfl, sq_of (e _ _ h), q H1 (Ex.refl _)⟩
def rInSign : R2 := fun x y H Q => ∃ (c : Nat) (z : Str), x = .str ⟨#[c]⟩ ∧ y = .str z ∧ Q (.bl (decide (c ∈ z.cps.toList))) H
theorem rv_inSign {c : Nat} {s : Str} : RV rInSign (.str ⟨#[c]⟩) (.str s) H (.bl (decide (c ∈ s.cps.toList))) := fun H1 _ _ q => ⟨c, s, rfl, rfl, q H1 (Ex.refl _)⟩
def rNotInSign : R2 := fun x y H Q => ∃ (c : Nat) (z : Str), x = .str ⟨#[c]⟩ ∧ y = .str z ∧ Q (.bl (!decide (c ∈ z.cps.toList))) H
theorem rv_notInSign {c : Nat} {s : Str} : RV rNotInSign (.str ⟨#[c]⟩) (.str s) H (.bl (!decide (c ∈ s.cps.toList))) := fun H1 _ _ q => ⟨c, s, rfl, rfl, q H1 (Ex.refl _)⟩
end
end Es
namespace Es
open PySem PySem.Spec PyProof.Rows L2 Evl
/-- all but the object at p stays -/
def Xp (p : Addr) (H H' : Hp) : Prop := ∀ a o, a ≠ p → H a = some o → H' a = some o
theorem Xp.refl (p : Addr) (H : Hp) : Xp p H H := fun _ _ _ h => h
theorem Xp.ex {p : Addr} {H H' : Hp} (e : Ex H H') : Xp p H H' := fun a o _ h => e a o h
theorem Xp.trans {p : Addr} {H H1 H2 : Hp} (a : Xp p H H1) (b : Xp p H1 H2) : Xp p H H2 := fun x o n h => b x o n (a x o n h)
theorem Xp.upd {p : Addr} {H : Hp} {o : HO} : Xp p H (upd H p o) := fun a u n h => by
  rw [upd_ne n]
  exact h
/-- a pot: three ints -/
def Pot (H : Hp) (p : Addr) (n : Int) : Prop := ∃ g s c : Int, H p = some (.lst [.int g, .int s, .int c]) ∧ 0 ≤ g ∧ 0 ≤ s ∧ s < 2 ^ 61 ∧ 0 ≤ c ∧ c ≤ n
theorem Pot.up {H H' : Hp} {p : Addr} {n : Int} (h : Pot H p n) (e : Ex H H') : Pot H' p n := by
  obtain ⟨g, s, c, h, r⟩ := h
  exact ⟨g, s, c, e _ _ h, r⟩
theorem Pot.more {H : Hp} {p : Addr} {n m : Int} (h : Pot H p n) (e : n ≤ m) : Pot H p m := by
  obtain ⟨g, s, c, h, r1, r2, r3, r4, r5⟩ := h
  exact ⟨g, s, c, h, r1, r2, r3, r4, by omega⟩
theorem Pot.back {H H' : Hp} {p q : Addr} {n : Int} (h : Pot H' p n) (e : Xp p H H') (hq : H' q = none) : H q = none := by
  obtain ⟨g, s, c, h, _⟩ := h
  cases hh : H q with
  | none => rfl
  | some o =>
    by_cases z : q = p
    · subst z
      rw [h] at hq
      cases hq
    · rw [e q o z hh] at hq
      cases hq
theorem Pot.ne {H : Hp} {p q : Addr} {n : Int} (h : Pot H p n) (hq : H q = none) : q ≠ p := by
  obtain ⟨g, s, c, h, _⟩ := h
  intro z
  subst z
  rw [h] at hq
  cases hq
def spTake : Sp := fun vs H Q _ => ∃ (p : Addr) (n m : Int), vs = [.ref p, .int n] ∧ 1 ≤ n ∧ n ≤ 1000 ∧ m ≤ 100000 ∧ Pot H p m ∧
  ∀ (r : Int) H', 0 ≤ r → r < n → Xp p H H' → Pot H' p (m + 1) → Q (.int r) H'
end Es
namespace Es
open PySem PySem.Spec PyProof.Rows L2 Evl
theorem Xp.mut {p D : Addr} {H H' : Hp} {o : HO} (e : Xp p H H') (h : H D = none) : Xp p H (L2.upd H' D o) := fun a u n ha => by
  rw [upd_ne (ne_of_none ha h)]
  exact e a u n ha
theorem len_glue : ∀ ys : List Str, (∀ y ∈ ys, y.length = 1) → (Str.join "" ys).length = ys.length
  | [], _ => rfl
  | [y], h => h y (List.mem_singleton.mpr rfl)
  | x :: z :: r, h => by
    show (x ++ "" ++ Str.join "" (z :: r)).length = r.length + 1 + 1
    rw [PySem.Str.length_append, PySem.Str.length_append, len_glue (z :: r) (fun y hy => h y (List.mem_cons_of_mem _ hy)), h x (List.mem_cons_self ..)]
    show 1 + 0 + (r.length + 1) = r.length + 1 + 1
    omega
theorem cut_le (z : Str) (lo hi : Option Int) : (cutS z lo hi).length ≤ z.length := by
  show (List.toArray _).size ≤ z.cps.size
  rw [List.size_toArray, List.length_take, List.length_drop, Array.length_toList]
  omega
end Es
namespace Es
open PySem PySem.Spec PyProof.Rows L2 Evl
section
variable {K : PySem.W.Frag} {σ : L2.St} {H H' : Hp} {ta tb te : TE} {tk : TA} {x y z v w : V} {sp : Sp}
def rReprB : List V → Hp → VK → Prop := fun xs H Q => ∃ b : Bool, xs = [.bl b] ∧ Q (.str (if b then "True" else "False")) H
def rReprD (K : PySem.W.Frag) : List V → Hp → VK → Prop := fun xs H Q => ∃ (a : Addr) (d : PyData), xs = [.ref a] ∧ Dp K H (.ref a) d ∧ d.showable = true ∧ d.hasDict = false ∧ d.depth ≤ 60 ∧ d.shown.length ≤ sizeLine ∧ Q (.str d.shown) H
theorem rc_reprB {b : Bool} : RC rReprB [.bl b] H (.str (if b then "True" else "False")) := fun H1 _ _ q => ⟨b, rfl, q H1 (Ex.refl _)⟩
/-- [b, b] written -/
def two (b : Bool) : PyData := .list [.bool b, .bool b]
theorem rc_repr2 {p : Addr} {b : Bool} (h : H p = some (.lst [.bl b, .bl b])) : RC (rReprD K) [.ref p] H (.str (two b).shown) := fun H1 e _ q =>
  ⟨p, two b, rfl, .lst (sq_of (e _ _ h)) (.cons (.bl b) (.cons (.bl b) .nil)), by cases b <;> decide +kernel, by cases b <;> decide +kernel, by cases b <;> decide +kernel, by cases b <;> decide +kernel, q H1 (Ex.refl _)⟩
theorem el_rep {xs : List V} {n : Int} (h : EvL ta σ H xs) (hn : 0 ≤ n ∧ n ≤ 100) (hl : xs.length ≤ 100) : EvL (tOp rRep ta (tC (.int n))) σ H (List.replicate n.toNat xs).flatten := by
  intro H1 e Q q
  refine h H1 e _ fun p H2 hp e2 h2 => ⟨p, n, xs, rfl, rfl, h2, by omega, by omega, ?_, fun r hr => q r _ (fresh_back e2 hr) (e2.trans (Ex.new hr)) upd_same⟩
  have : xs.length * n.toNat ≤ 100 * 100 := Nat.mul_le_mul hl (by omega)
  exact sz_of (by omega)
theorem ev_callK0 {gV : List V → List V → List V} {vs : List V} (h : EvA tk σ H vs) (hs : SpV sp (gV [] vs) H z) : Ev (fun σ H Q => tk σ H fun zs H1 => sp (gV [] zs) H1 Q E0) σ H z := fun H1 e Q q =>
  h H1 e _ fun H2 e2 => hs H2 (e.trans e2) Q (fun H3 e3 => q H3 (e2.trans e3)) E0
end
/-- one keyword alone -/
def kwV : List V → List V → List V
  | [], zs => zs
  | _ :: _, _ => []
def kwU : List Value → List Value → List Value
  | [], zs => zs
  | _ :: _, _ => []
theorem kw_rel {vs zs : List V} {us ws : List Value} (r : Vals vs us) (rz : Vals zs ws) : Vals (kwV vs zs) (kwU us ws) := by
  cases r with
  | nil => exact rz
  | cons _ _ => exact .nil
end Es
namespace PySem.SeqAt
open PySem Builtin
/-- dict.__eq__ of a text, str.__eq__ of a dict -/
theorem es_dict_str (l : Addr) (es : Array DictEntry) (n : Nat) (dd : Option Addr) (sl : Array (Option Value)) (b : Str) (u : Tok) :
    Meets (Builtin.«dict.__eq__» ⟨[.ref l, .str b u], []⟩) (fun _ R s => s.heap.get? l = some { cls := .type "dict", dict := dd, data := .dict es n, slots := sl } ∧ R (.ok (.ret .notImplemented)) s) :=
  .of_wp fun prog w A R s h => by
    obtain ⟨hp, g, d, tk, os⟩ := s
    obtain ⟨hl, h⟩ := h
    have f1 := F.sub_str_dict
    wp_walk using wpAny_loadPart' hl, wpAny_load hl
    exact ⟨_, rfl, h⟩
theorem es_str_dict (l : Addr) (es : Array DictEntry) (n : Nat) (dd : Option Addr) (sl : Array (Option Value)) (b : Str) (u : Tok) :
    Meets (Builtin.«str.__eq__» ⟨[.str b u, .ref l], []⟩) (fun _ R s => s.heap.get? l = some { cls := .type "dict", dict := dd, data := .dict es n, slots := sl } ∧ R (.ok (.ret .notImplemented)) s) :=
  .of_wp fun prog w A R s h => by
    obtain ⟨hp, g, d, tk, os⟩ := s
    obtain ⟨hl, h⟩ := h
    have f1 := F.sub_dict_str
    wp_walk using wpAny_loadPart' hl, wpAny_load hl
    exact ⟨_, rfl, h⟩
section
variable {A : Around} {s : Shared}
def IsDic (h : Heap) (l : Addr) : Prop := ∃ dd es n sl, h.get? l = some { cls := .type "dict", dict := dd, data := .dict es n, slots := sl }
theorem es_rc_dict_str {l : Addr} (b : Str) (u : Tok) (hl : IsDic s.heap l) (hu : A.units < cLine) : RcAt A s (.ref l) (.str b u) false := fun prog w E Q h => by
  obtain ⟨dd, es, n, sl, ho⟩ := hl
  exact rc_eq_decline_or (k := false) ⟨_, ho, rfl⟩ (typeIs_str s b u) (by decide) F.sub_str_dict F.slot_dict_eq F.slot_str_eq_refl
    (fun _ hq => call_meets F.slot_dict_eq ⟨_, ho, rfl⟩ F.entry_dict_eq (F.args_dict_eq_2 _ _) (es_dict_str l es n dd sl b u) ⟨ho, hq⟩)
    (fun _ hq => call_meets F.slot_str_eq_refl (typeIs_str s b u) F.entry_str_eq (F.args_str_eq_2 _ _) (es_str_dict l es n dd sl b u) ⟨ho, hq⟩)
    (fun _ hq => wpAny_of_eq (rfl : isSame (.ref l) (.str b u) = pure false) hq) (.inr hu) h
theorem es_rc_str_dict {l : Addr} (b : Str) (u : Tok) (hl : IsDic s.heap l) (hu : A.units < cLine) : RcAt A s (.str b u) (.ref l) false := fun prog w E Q h => by
  obtain ⟨dd, es, n, sl, ho⟩ := hl
  exact rc_eq_decline_or (k := false) (typeIs_str s b u) ⟨_, ho, rfl⟩ (by decide) F.sub_dict_str F.slot_str_eq F.slot_dict_eq_refl
    (fun _ hq => call_meets F.slot_str_eq (typeIs_str s b u) F.entry_str_eq (F.args_str_eq_2 _ _) (es_str_dict l es n dd sl b u) ⟨ho, hq⟩)
    (fun _ hq => call_meets F.slot_dict_eq_refl ⟨_, ho, rfl⟩ F.entry_dict_eq (F.args_dict_eq_2 _ _) (es_dict_str l es n dd sl b u) ⟨ho, hq⟩)
    (fun _ hq => wpAny_of_eq (rfl : isSame (.str b u) (.ref l) = pure false) hq) (.inr hu) h
theorem es_eq_dict_str {l : Addr} (b : Str) (u : Tok) (hl : IsDic s.heap l) (hu : A.units < cLine) : EqAt A s (.ref l) (.str b u) false := fun prog w E Q h => by
  unfold eqBool
  refine wpAny_holding (wpAny_ite_split (fun hab => absurd (eq_of_beq hab) nofun) (fun _ => ?_))
  exact wpAny_bind (es_rc_dict_str b u hl hu prog w E _ (wpAny_truthy_bool h))
theorem es_eq_str_dict {l : Addr} (b : Str) (u : Tok) (hl : IsDic s.heap l) (hu : A.units < cLine) : EqAt A s (.str b u) (.ref l) false := fun prog w E Q h => by
  unfold eqBool
  refine wpAny_holding (wpAny_ite_split (fun hab => absurd (eq_of_beq hab) nofun) (fun _ => ?_))
  exact wpAny_bind (es_rc_str_dict b u hl hu prog w E _ (wpAny_truthy_bool h))
end
end PySem.SeqAt
namespace Es
open PySem PySem.Spec PyProof.Rows L2 Evl
/-- where data does not stand: at a pot, nor at some lists -/
structure Sx where
  p : Addr
  m : Addr → Prop
def out : Option Sx → Addr → Prop
  | none, _ => False
  | some S, a => a = S.p ∨ S.m a
mutual
/-- data that stands in the heap, not at p; dicts of at most one pair, its key a text -/
inductive Dd (p : Option Sx) (H : Hp) : V → PyData → Prop
  | non : Dd p H .non .none
  | bl (b : Bool) : Dd p H (.bl b) (.bool b)
  | int (i : Int) : Dd p H (.int i) (.int i)
  | str (x : Str) : Dd p H (.str x) (.str x)
  | lst {a : Addr} {xs : List V} {ds : List PyData} : ¬ out p a → a ≠ sysModules → H a = some (.lst xs) → DdAll p H xs ds → Dd p H (.ref a) (.list ds)
  | tup {a : Addr} {xs : List V} {ds : List PyData} : ¬ out p a → H a = some (.tup xs) → DdAll p H xs ds → Dd p H (.ref a) (.tuple ds)
  | dk0 {a : Addr} : ¬ out p a → H a = some (.dK []) → Dd p H (.ref a) (.dict [])
  | dk1 {a : Addr} {k : Str} {v : V} {d : PyData} : ¬ out p a → H a = some (.dK [(Sum.inr k, v)]) → Dd p H v d → Dd p H (.ref a) (.dict [(.str k, d)])
inductive DdAll (p : Option Sx) (H : Hp) : List V → List PyData → Prop
  | nil : DdAll p H [] []
  | cons {v : V} {vs : List V} {d : PyData} {ds : List PyData} : Dd p H v d → DdAll p H vs ds → DdAll p H (v :: vs) (d :: ds)
end
theorem sn0 {a : Addr} : ¬ out none a := fun h => h
theorem no_p {S : Sx} {a : Addr} (h : ¬ out (some S) a) : a ≠ S.p := fun e => h (.inl e)
section
variable {p : Option Sx} {H H' : Hp}
mutual
theorem Dd.xp {q : Sx} (e : Xp q.p H H') : ∀ {v : V} {d : PyData}, Dd (some q) H v d → Dd (some q) H' v d
  | _, _, .non => .non
  | _, _, .bl b => .bl b
  | _, _, .int i => .int i
  | _, _, .str x => .str x
  | _, _, .lst n m h r => .lst n m (e _ _ (no_p n) h) (DdAll.xp e r)
  | _, _, .tup n h r => .tup n (e _ _ (no_p n) h) (DdAll.xp e r)
  | _, _, .dk0 n h => .dk0 n (e _ _ (no_p n) h)
  | _, _, .dk1 n h r => .dk1 n (e _ _ (no_p n) h) (Dd.xp e r)
theorem DdAll.xp {q : Sx} (e : Xp q.p H H') : ∀ {vs : List V} {ds : List PyData}, DdAll (some q) H vs ds → DdAll (some q) H' vs ds
  | _, _, .nil => .nil
  | _, _, .cons h r => .cons (Dd.xp e h) (DdAll.xp e r)
end
mutual
theorem Dd.ups (e : Ex H H') : ∀ {v : V} {d : PyData}, Dd p H v d → Dd p H' v d
  | _, _, .non => .non
  | _, _, .bl b => .bl b
  | _, _, .int i => .int i
  | _, _, .str x => .str x
  | _, _, .lst n m h r => .lst n m (e _ _ h) (DdAll.ups e r)
  | _, _, .tup n h r => .tup n (e _ _ h) (DdAll.ups e r)
  | _, _, .dk0 n h => .dk0 n (e _ _ h)
  | _, _, .dk1 n h r => .dk1 n (e _ _ h) (Dd.ups e r)
theorem DdAll.ups (e : Ex H H') : ∀ {vs : List V} {ds : List PyData}, DdAll p H vs ds → DdAll p H' vs ds
  | _, _, .nil => .nil
  | _, _, .cons h r => .cons (Dd.ups e h) (DdAll.ups e r)
end
theorem Dd.up {v : V} {d : PyData} (h : Dd p H v d) (e : Ex H H') : Dd p H' v d := h.ups e
theorem DdAll.up {v : List V} {d : List PyData} (h : DdAll p H v d) (e : Ex H H') : DdAll p H' v d := h.ups e
theorem DdAll.length : ∀ {vs : List V} {ds : List PyData}, DdAll p H vs ds → vs.length = ds.length
  | _, _, .nil => rfl
  | _, _, .cons _ r => by rw [List.length_cons, List.length_cons, DdAll.length r]
theorem DdAll.append : ∀ {vs ws : List V} {ds es : List PyData}, DdAll p H vs ds → DdAll p H ws es → DdAll p H (vs ++ ws) (ds ++ es)
  | _, _, _, _, .nil, h => h
  | _, _, _, _, .cons h r, k => .cons h (DdAll.append r k)
theorem DdAll.drop : ∀ {vs : List V} {ds : List PyData} (i : Nat), DdAll p H vs ds → DdAll p H (vs.drop i) (ds.drop i)
  | _, _, 0, h => h
  | _, _, _ + 1, .nil => .nil
  | _, _, i + 1, .cons _ r => DdAll.drop i r
theorem DdAll.take : ∀ {vs : List V} {ds : List PyData} (i : Nat), DdAll p H vs ds → DdAll p H (vs.take i) (ds.take i)
  | _, _, 0, h => .nil
  | _, _, _ + 1, .nil => .nil
  | _, _, i + 1, .cons h r => .cons h (DdAll.take i r)
theorem DdAll.get : ∀ {vs : List V} {ds : List PyData} {i : Nat} {v : V}, DdAll p H vs ds → vs[i]? = some v → ∃ d, ds[i]? = some d ∧ Dd p H v d
  | _, _, 0, _, .cons h _, e => ⟨_, rfl, by cases e; exact h⟩
  | _, _, i + 1, _, .cons _ r, e => DdAll.get (i := i) r e
theorem Dd.thing {v : V} {d : PyData} (h : Dd p H v d) (hs : ∀ x, d = .str x → x.length ≤ 1000) : Thing H v := by
  cases h with
  | non => exact .non
  | bl b => exact .bl b
  | int i => exact .int i
  | str x => exact .str x (hs x rfl)
  | lst n m h r => exact .lst h
  | tup n h r => exact .tup h
  | dk0 n h => exact .dK h
  | dk1 n h r => exact .dK h
end
section
variable {X : Cx} {pins : List (Addr × Obj)} {σ : L2.St} {H : Hp} {s : Shared} {p : Option Sx}
theorem dic_of (I : Inv X pins σ H s) {a : Addr} {kvs : List (Key × V)} (h : H a = some (.dK kvs)) : SeqAt.IsDic s.heap a ∧ a ≠ sysModules := by
  obtain ⟨_, hs, vs, rv, hd⟩ := (show ObjOk X.prog X.w H s.heap a (.dK kvs) from I.hok a _ h)
  obtain ⟨⟨cls, dd, data, sl⟩, es, ep, ho, ⟨h1, h2, h3⟩, h4, _⟩ := hd
  cases (show cls = _ from h1)
  cases (show data = _ from h4)
  exact ⟨⟨dd, es, ep, sl, ho⟩, beq_eq_false_iff_ne.mp hs⟩
end
end Es
namespace Es
open PySem PySem.Spec PyProof.Rows L2 Evl
section
variable {X : Cx} {pins : List (Addr × Obj)} {σ : L2.St} {H : Hp} {s : Shared} {p : Option Sx}
mutual
theorem Dd.reads (I : Inv X pins σ H s) : ∀ {v : V} {d : PyData} {u : Value}, Dd p H v d → RelV v u → ∃ as, Reads s.heap u d as ∧ sysModules ∉ as
  | _, _, _, .non, r => by
    cases r
    exact ⟨_, Reads.none, List.not_mem_nil⟩
  | _, _, _, .bl b, r => by
    cases r
    exact ⟨_, Reads.bool b, List.not_mem_nil⟩
  | _, _, _, .int i, r => by
    obtain ⟨t, rfl⟩ := r
    exact ⟨_, Reads.int i t, List.not_mem_nil⟩
  | _, _, _, .str x, r => by
    obtain ⟨t, rfl⟩ := r
    exact ⟨_, Reads.str x t, List.not_mem_nil⟩
  | _, _, _, .lst n m h q, r => by
    cases r
    obtain ⟨its, rv, ⟨o, k, ho, hc, _, hd⟩, _⟩ := I.list (sq_of h)
    obtain ⟨as, hr, hn⟩ := DdAll.reads I q rv
    refine ⟨_, Reads.list ho hc hd hr, fun z => ?_⟩
    rcases List.mem_cons.mp z with e | e
    · exact m e.symm
    · exact hn e
  | _, _, _, .tup n h q, r => by
    cases r
    obtain ⟨its, rv, ⟨o, ho, hc, k, hd⟩, _⟩ := I.tuple (st_of h)
    obtain ⟨as, hr, hn⟩ := DdAll.reads I q rv
    exact ⟨_, Reads.tuple ho hc hd hr, hn⟩
  | _, _, _, @Dd.dk0 _ _ a n h, r => by
    cases r
    have hm := (dic_of I h).2
    obtain ⟨_, _, vs, rv, hd⟩ := (show ObjOk X.prog X.w H s.heap a (.dK []) from I.hok a _ h)
    obtain ⟨o, es, ep, ho, hx, hdt, hk, hp, _⟩ := hd
    cases rv
    have he : es.toList = [] := by
      generalize es.toList = l at hp
      cases hp
      rfl
    refine ⟨_, Reads.dict (kvs := []) ho hx.1 hdt (as := []) (bs := []) (by rw [he]; exact .nil) (by rw [he]; exact .nil), fun z => ?_⟩
    rcases List.mem_cons.mp z with e | e
    · exact hm e.symm
    · cases e
  | _, _, _, @Dd.dk1 _ _ a k v d n h q, r => by
    cases r
    have hm := (dic_of I h).2
    obtain ⟨_, _, vs, rv, hd⟩ := (show ObjOk X.prog X.w H s.heap a (.dK [(Sum.inr k, v)]) from I.hok a _ h)
    obtain ⟨o, es, ep, ho, hx, hdt, hk, hp, _⟩ := hd
    obtain ⟨w, rfl, rw⟩ : ∃ w, vs = [(Sum.inr k, w)] ∧ RelV v w := by
      unfold KV at rv
      match vs, rv with
      | [(y1, y2)], .cons q1 .nil =>
        have e1 : Sum.inr k = y1 := q1.1
        subst e1
        exact ⟨y2, rfl, q1.2⟩
    obtain ⟨as, ar, an⟩ := Dd.reads I q rw
    obtain ⟨e, t, he, hkey, hval⟩ : ∃ (e : DictEntry) (t : Tok), es.toList = [e] ∧ e.key = .str k t ∧ e.val = w := by
      generalize es.toList = l at hp
      cases hp with
      | cons z1 z2 z3 =>
        cases z3
        rename_i e
        rcases keyIs_shape (k := Sum.inr k) (v := e.key) z1 with ⟨i, t, e1, _⟩ | ⟨x, t, e1, e2⟩
        · cases e1
        · cases e1
          exact ⟨e, t, rfl, e2, z2⟩
    refine ⟨_, Reads.dict (kvs := [(.str k, d)]) ho hx.1 hdt (as := [] ++ []) (bs := as ++ []) (by rw [he, List.map_singleton, hkey]; exact .cons (.str k t) .nil) (by rw [he, List.map_singleton, hval]; exact .cons ar .nil), fun z => ?_⟩
    rcases List.mem_cons.mp z with y | y
    · exact hm y.symm
    · rw [List.append_nil] at y
      exact an (by simpa using y)
theorem DdAll.reads (I : Inv X pins σ H s) : ∀ {vs : List V} {ds : List PyData} {us : List Value}, DdAll p H vs ds → Vals vs us → ∃ as, ReadsAll s.heap us ds as ∧ sysModules ∉ as
  | _, _, _, .nil, r => by
    cases r
    exact ⟨_, ReadsAll.nil, List.not_mem_nil⟩
  | _, _, _, .cons h q, r => by
    cases r with
    | cons r1 r2 =>
      obtain ⟨as, a1, a2⟩ := Dd.reads I h r1
      obtain ⟨bs, b1, b2⟩ := DdAll.reads I q r2
      exact ⟨_, ReadsAll.cons a1 b1, fun z => (List.mem_append.mp z).elim a2 b2⟩
end
end
/-- what repr asks of data, dicts among it -/
def Fit (n : Nat) (d : PyData) : Prop := d.showable = true ∧ d.leavesShort 30 = true ∧ d.bulk ≤ 8 * n ∧ d.depth ≤ n
theorem Fit.more {n m : Nat} {d : PyData} (h : Fit n d) (e : n ≤ m) : Fit m d := ⟨h.1, h.2.1, (by have := h.2.2.1; omega), Nat.le_trans h.2.2.2 e⟩
theorem Fit.len {n : Nat} {d : PyData} (h : Fit n d) : d.shown.length ≤ 256 * n + 30 := by
  have := PyData.shown_le_bulk 30 (by decide) d h.2.1
  have := h.2.2.1
  omega
def Fits (n : Nat) (ds : List PyData) : Prop := PyData.showableAll ds = true ∧ PyData.leavesShortAll 30 ds = true ∧ PyData.bulkAll ds ≤ 8 * n ∧ PyData.depthAll ds ≤ n
theorem Fits.nil : Fits 0 [] := ⟨rfl, rfl, Nat.le_refl _, Nat.le_refl _⟩
theorem Fits.cons {n m : Nat} {d : PyData} {ds : List PyData} (h : Fit n d) (k : Fits m ds) : Fits (n + 1 + m) (d :: ds) := by
  obtain ⟨a1, a2, a3, a4⟩ := h
  obtain ⟨b1, b2, b3, b4⟩ := k
  refine ⟨?_, ?_, ?_, ?_⟩
  · show (d.showable && PyData.showableAll ds) = true
    rw [a1, b1]
    rfl
  · show (d.leavesShort 30 && PyData.leavesShortAll 30 ds) = true
    rw [a2, b2]
    rfl
  · show d.bulk + 1 + PyData.bulkAll ds ≤ 8 * (n + 1 + m)
    omega
  · show max d.depth (PyData.depthAll ds) ≤ n + 1 + m
    omega
theorem Fits.more {n m : Nat} {d : List PyData} (h : Fits n d) (e : n ≤ m) : Fits m d := ⟨h.1, h.2.1, (by have := h.2.2.1; omega), Nat.le_trans h.2.2.2 e⟩
theorem Fits.tup {n : Nat} {ds : List PyData} (h : Fits n ds) : Fit (n + 1) (.tuple ds) := by
  obtain ⟨a1, a2, a3, a4⟩ := h
  refine ⟨a1, a2, ?_, ?_⟩
  · show PyData.bulkAll ds ≤ 8 * (n + 1)
    omega
  · show PyData.depthAll ds + 1 ≤ n + 1
    omega
theorem Fits.lst {n : Nat} {ds : List PyData} (h : Fits n ds) : Fit (n + 1) (.list ds) := by
  obtain ⟨a1, a2, a3, a4⟩ := h
  refine ⟨a1, a2, ?_, ?_⟩
  · show PyData.bulkAll ds ≤ 8 * (n + 1)
    omega
  · show PyData.depthAll ds + 1 ≤ n + 1
    omega
theorem fit_non : Fit 0 .none := ⟨rfl, rfl, Nat.le_refl _, Nat.le_refl _⟩
theorem fit_bl (b : Bool) : Fit 0 (.bool b) := ⟨rfl, rfl, Nat.le_refl _, Nat.le_refl _⟩
theorem fit_str {x : Str} {n : Nat} (h : (x.cps.toList.all fun c => decide (c < 16 ^ 8)) = true) (hn : x.length ≤ 8 * n) : Fit n (.str x) := ⟨rfl, h, hn, Nat.zero_le _⟩
theorem fit_int {i : Int} (h : i.natAbs.log2 < 1920) (hl : (PyData.shown (.int i)).length ≤ 30) : Fit 0 (.int i) := ⟨decide_eq_true h, decide_eq_true hl, Nat.le_refl _, Nat.le_refl _⟩
theorem fit_dk0 : Fit 1 (.dict []) := ⟨rfl, rfl, Nat.zero_le _, Nat.le_refl _⟩
theorem fit_dk1 {k : Str} {d : PyData} {n : Nat} (hk : (k.cps.toList.all fun c => decide (c < 16 ^ 8)) = true) (hkl : k.length ≤ 10) (h : Fit n d) : Fit (n + 13) (.dict [(.str k, d)]) := by
  obtain ⟨a1, a2, a3, a4⟩ := h
  refine ⟨?_, ?_, ?_, ?_⟩
  · show (true && d.showable && true) = true
    rw [a1]
    rfl
  · show ((k.cps.toList.all fun c => decide (c < 16 ^ 8)) && d.leavesShort 30 && true) = true
    rw [hk, a2]
    rfl
  · show k.cps.size + d.bulk + 2 + 0 ≤ 8 * (n + 13)
    have : k.cps.size ≤ 10 := hkl
    omega
  · show max (max 0 d.depth) 0 + 1 ≤ n + 13
    omega
section
variable {X : Cx}
def rReprX : List V → Hp → VK → Prop := fun xs H Q => ∃ (v : V) (d : PyData) (p : Option Sx), xs = [v] ∧ Dd p H v d ∧ Fit 190 d ∧ Q (.str d.shown) H
theorem cr_reprX (hg : X.A.guards = some []) (hu : X.A.units + 200 < cLine) : CallR X (.builtin "repr") rReprX := by
  intro pins s σ H xs us Q I r h
  obtain ⟨v, d, p, rfl, hd, hf, q⟩ := h
  obtain ⟨u, rfl, ru⟩ := vals1 r
  obtain ⟨as, rd, hn⟩ := hd.reads I ru
  have hz : d.shown.length ≤ sizeLine := sz_of (Nat.le_trans hf.len (by decide))
  have big : ∀ a, v = .ref a → wpAny (model X.prog X.w) X.A (call (.builtin "repr") [u]) (EP X pins σ Q) X.xe s := by
    rintro a rfl
    obtain rfl : u = Value.ref a := ru
    refine repr_of_reads' rd hf.1 (fun _ => hn) hg (by have := hf.2.2.2; omega) (fun _ _ e => e) (fun h' u tk hk => ?_) hz
    exact ⟨.str d.shown, H, I.kept (t' := tk) hk, ⟨_, rfl⟩, q⟩
  cases hd with
  | non =>
    cases ru
    exact PySem.P.repr_of_none ⟨.str _, H, I.tok _, ⟨_, rfl⟩, q⟩
  | bl b =>
    obtain rfl : u = Value.bool b := ru
    exact PySem.P.repr_of_bool ⟨.str _, H, I.tok _, ⟨_, rfl⟩, q⟩
  | int i =>
    obtain ⟨t, rfl⟩ := ru
    exact PySem.P.repr_of_int (of_decide_eq_true hf.1) ⟨.str _, H, I.tok _, ⟨_, rfl⟩, q⟩
  | str x =>
    obtain ⟨t, rfl⟩ := ru
    exact PySem.P.repr_of_str ⟨.str _, H, I.tok _, ⟨_, rfl⟩, q⟩ hz
  | lst n m h r => exact big _ rfl
  | tup n h r => exact big _ rfl
  | dk0 n h => exact big _ rfl
  | dk1 n h r => exact big _ rfl
/-- is the datum this text? -/
def isT (z : Str) : PyData → Bool
  | .str y => y == z
  | _ => false
theorem eqAt_dS {pins : List (Addr × Obj)} {σ : L2.St} {H : Hp} {s : Shared} {p : Option Sx} {v : V} {d : PyData} {u : Value} {z : Str} {t : Tok} {A : Around} (I : Inv X pins σ H s) (h : Dd p H v d) (r : RelV v u) (hu : A.units < cLine) :
    SeqAt.EqAt A s u (.str z t) (isT z d) := by
  cases h with
  | non =>
    cases r
    exact SeqAt.EqAt.none_str _ _
  | bl b =>
    obtain rfl : u = Value.bool b := r
    exact SeqAt.EqAt.bool_str _ _ _
  | int i =>
    obtain ⟨t', rfl⟩ := r
    exact SeqAt.EqAt.int_str _ _ _ _
  | str x =>
    obtain ⟨t', rfl⟩ := r
    exact SeqAt.EqAt.str_str _ _ _ _
  | lst n m h q =>
    cases r
    obtain ⟨its, rv, pl, _⟩ := I.list (sq_of h)
    exact SeqAt.EqAt.list_str _ _ pl.isList hu
  | tup n h q =>
    cases r
    obtain ⟨its, rv, ⟨o, ho, hc, k, hd⟩, _⟩ := I.tuple (st_of h)
    exact SeqAt.EqAt.tuple_str _ _ ⟨o, ho, hc, k, hd⟩ hu
  | dk0 n h =>
    cases r
    exact SeqAt.es_eq_dict_str _ _ (dic_of I h).1 hu
  | dk1 n h q =>
    cases r
    exact SeqAt.es_eq_dict_str _ _ (dic_of I h).1 hu
theorem eqAt_Sd {pins : List (Addr × Obj)} {σ : L2.St} {H : Hp} {s : Shared} {p : Option Sx} {v : V} {d : PyData} {u : Value} {z : Str} {t : Tok} {A : Around} (I : Inv X pins σ H s) (h : Dd p H v d) (r : RelV v u) (hu : A.units < cLine) :
    SeqAt.EqAt A s (.str z t) u (isT z d) := by
  cases h with
  | non =>
    cases r
    exact SeqAt.EqAt.str_none _ _
  | bl b =>
    obtain rfl : u = Value.bool b := r
    exact SeqAt.EqAt.str_bool _ _ _
  | int i =>
    obtain ⟨t', rfl⟩ := r
    exact SeqAt.EqAt.str_int _ _ _ _
  | str x =>
    obtain ⟨t', rfl⟩ := r
    have e : isT z (.str x) = (z == x) := by
      show (x == z) = (z == x)
      by_cases h : x = z
      · rw [h]
      · rw [beq_eq_false_iff_ne.mpr h, beq_eq_false_iff_ne.mpr (Ne.symm h)]
    rw [e]
    exact SeqAt.EqAt.str_str _ _ _ _
  | lst n m h q =>
    cases r
    obtain ⟨its, rv, pl, _⟩ := I.list (sq_of h)
    exact SeqAt.EqAt.str_list _ _ pl.isList hu
  | tup n h q =>
    cases r
    obtain ⟨its, rv, ⟨o, ho, hc, k, hd⟩, _⟩ := I.tuple (st_of h)
    exact SeqAt.EqAt.str_tuple _ _ ⟨o, ho, hc, k, hd⟩ hu
  | dk0 n h =>
    cases r
    exact SeqAt.es_eq_str_dict _ _ (dic_of I h).1 hu
  | dk1 n h q =>
    cases r
    exact SeqAt.es_eq_str_dict _ _ (dic_of I h).1 hu
end
end Es
namespace PySem
/-- enumerate of one thing -/
theorem es_enum_new {v : Value} {o : Obj} {H : Heap → Prop} (B : Begins v o H) :
    Meets (Builtin.«enumerate.__new__» ⟨[.type "enumerate", v], []⟩) (fun _ R s => H s.heap ∧
      R (.ok (.ret (.ref (s.heap.push o).objs.size))) { s with heap := (s.heap.push o).push { cls := .type "enumerate", data := .fields #[.none, .bool false, .ref s.heap.objs.size, rawInt 0, .none, .none] } }) :=
  .of_wp fun prog w A R s h => by
    obtain ⟨hp, g, d, tk, os⟩ := s
    obtain ⟨h1, h⟩ := h
    have hs := sub_enumerate
    have b1 : ∀ {A' : Around} {E : Value → Shared → Prop} {Q : Value → Shared → Prop}, Q (.ref hp.objs.size) ⟨hp.push o, g, d, tk, os⟩ → wpAny (model prog w) A' (pyIter v) Q E ⟨hp, g, d, tk, os⟩ :=
      fun q => B.iter prog w _ _ ⟨hp, g, d, tk, os⟩ _ h1 q
    wp_walk using b1
    refine wpAny_stack_any fun st => wpAny_pure ?_
    split
    · rename_i c _ _ _ _ _
      cases (c == Value.type "enumerate") <;> (wp_walk using b1; exact ⟨_, rfl, h⟩)
    · wp_walk using b1
      exact ⟨_, rfl, h⟩
theorem es_enum_tup {prog : Program} {w : World} {A : Around} {E : Value → Shared → Prop} {s : Shared} {l : Addr} {its : Array Value} {Q : Value → Shared → Prop} (hL : s.heap.IsTuple l its)
    (h : ∀ h', IsEnum h' (s.heap.objs.size + 1) s.heap.objs.size 0 .none → h'.IsTupleIter s.heap.objs.size l 0 → h'.objs.size = s.heap.objs.size + 2 →
      (∀ b o, s.heap.get? b = some o → h'.get? b = some o) → Q (.ref (s.heap.objs.size + 1)) { s with heap := h' }) :
    wpAny (model prog w) A (call (.type "enumerate") [.ref l]) Q E s := by
  have B := begins_tuple l its
  refine callType_new F.called_enumerate (by decide) (F.typeCall_enumerate_1 _) (F.newCall_enumerate_1 _) (fun obj => F.args_object_init_2 obj _) F.entry_enumerate_new (es_enum_new B) ⟨hL, ?_⟩
  have hz : (s.heap.push { cls := .type "tuple_iterator", data := .fields #[.ref l, .int 0 0] }).objs.size = s.heap.objs.size + 1 := Heap.size_push ..
  show _ ∧ _
  rw [hz]
  have he : IsEnum ((s.heap.push { cls := .type "tuple_iterator", data := .fields #[.ref l, .int 0 0] }).push { cls := .type "enumerate", data := .fields #[.none, .bool false, .ref s.heap.objs.size, rawInt 0, .none, .none] }) (s.heap.objs.size + 1) s.heap.objs.size 0 .none := by
    have := Heap.get?_push_size (s.heap.push { cls := .type "tuple_iterator", data := .fields #[.ref l, .int 0 0] }) (o := { cls := .type "enumerate", data := .fields #[.none, .bool false, .ref s.heap.objs.size, rawInt 0, .none, .none] }) rfl
    rw [hz] at this
    exact this
  refine ⟨⟨_, he, rfl⟩, h _ he ⟨_, Heap.get?_push_of_some _ (Heap.get?_push_size _ rfl), rfl, rfl⟩ (by rw [Heap.size_push, hz]) ?_⟩
  intro b o x
  exact Heap.get?_push_of_some _ (Heap.get?_push_of_some _ x)
end PySem
namespace Es
open PySem PySem.Spec PyProof.Rows L2 Evl
/-- the tuple at a, each item with its number in a new pair -/
def Iet (K : PySem.W.Frag) (a : Addr) : It :=
  ⟨fun i H => ∃ (xs : List V) (x : V), SqT K H a xs ∧ xs[i]? = some x, fun i H v H' => ∃ T x, v = .ref T ∧ H T = none ∧ H' = upd H T (.tup [.int (i : Nat), x]) ∧ ∀ xs, SqT K H a xs → xs[i]? = some x,
    fun i H => ∃ xs : List V, SqT K H a xs ∧ xs.length = i⟩
theorem turn_et {P : Program} {w : World} {K : PySem.W.Frag} {elts : List Expr} {kk : Nat} {tpos : Pos} (a e it : Addr) :
    Turn P w K (.Tuple elts kk tpos) (Iet K a) [e, it] e (fun i h => (∃ old, IsEnum h e it ((i : Nat) : Int) old) ∧ h.IsTupleIter it a i ∧ e ≠ it ∧ a ≠ it ∧ e ≠ a) where
  mem := by simp
  obj := fun i h st b hb => by
    obtain ⟨⟨old, he⟩, ⟨o, ho, hc, hd⟩, _⟩ := st
    rcases List.mem_cons.mp hb with z | z
    · subst z
      exact ⟨_, he, fun v q => nomatch q⟩
    · cases List.mem_singleton.mp z
      exact ⟨o, ho, fun v q => by rw [hd] at q; cases q⟩
  keep := fun i h h' st k => by
    obtain ⟨⟨old, he⟩, hi, r⟩ := st
    exact ⟨⟨old, k e (by simp) _ he⟩, hi.at fun o q => k it (by simp) o q, r⟩
  item := by
    intro X hP hw hK hc i pins s σ H E I hf st hg
    subst hP hw hK
    obtain ⟨⟨old, he⟩, hit, hne, hai, hea⟩ := st
    obtain ⟨xs, x, hq, hx⟩ := hg
    obtain ⟨its, rv, it0, hz⟩ := I.tuple hq
    obtain ⟨u, hu, ru⟩ := rv.get hx
    have hel : e < s.heap.objs.size := Heap.lt_size he
    have hil : it < s.heap.objs.size := by
      obtain ⟨_, q, _⟩ := hit
      exact Heap.lt_size q
    have hlt : i < its.toArray.size := by
      rw [List.size_toArray]
      exact (List.getElem?_eq_some_iff.mp hu).1
    have D := Draws.tuple (prog := X.prog) (w := X.w) (A := X.A.in1) (I.ok.hd hc) it a hai its.toArray
    refine wpAny_pyNext_enum_itemD D he ⟨hit, it0⟩ hlt hne (by simp [hne, hea]) ?_
    intro y h' tk hy ho hst hT hsz hk
    have hyu : y = u := by
      have h1 : its.toArray[i]? = some y := hy
      have h2 : its.toArray[i]? = some u := by simpa using hu
      exact Option.some.inj (h1.symm.trans h2)
    subst hyu
    refine ⟨_, rfl, wpAny_letOwnedTupleGo_enum (s := { s with heap := h', toks := tk + 1 }) ho ?_⟩
    intro h'' he' sb
    have hT2 : h''.get? s.heap.objs.size = some { cls := .type "tuple", data := .seq #[.int i tk, y] } := (sb.2 _ (Nat.ne_of_gt hel)).trans hT
    have new : ObjOk X.prog X.w (upd H s.heap.objs.size (.tup [.int (i : Nat), x])) h'' s.heap.objs.size (.tup [.int (i : Nat), x]) :=
      ⟨by show 2 ≤ sizeLine; decide, [.int i tk, y], .cons ⟨_, rfl⟩ (.cons ru .nil), ⟨_, hT2, rfl, _, rfl⟩⟩
    have I1 : Inv X pins σ (upd H s.heap.objs.size (.tup [.int (i : Nat), x])) { s with heap := h'', toks := tk + 1 } :=
      I.turnedNew (ch := [e, it]) (fun b ob hb q => (sb.2 b (fun z => hb (by simp [z]))).trans (hk b ob (fun z => hb (by simp [z])) (fun z => hb (by simp [z])) q)) hf (Nat.le_refl _) new
    refine ⟨.ref s.heap.objs.size, _, I1, rfl, ⟨_, x, rfl, I.hok.fresh (Nat.le_refl _), rfl, fun ys hy => by rw [I.tuple_inj hy hq]; exact hx⟩, ⟨⟨y, ?_⟩, hst.1.at fun o q => (sb.2 it (Ne.symm hne)).trans q, hne, hai, hea⟩, fun b hb => ?_⟩
    · rw [show ((i + 1 : Nat) : Int) = (i : Int) + 1 by omega]
      exact he'
    · have hb' : b < s.heap.objs.size := by
        rcases List.mem_cons.mp hb with z | z
        · subst z
          exact hel
        · cases List.mem_singleton.mp z
          exact hil
      rw [upd_ne (Nat.ne_of_lt hb')]
      exact (hf b hb).1
  done := by
    intro X hP hw hK hc i pins s σ H E I hf st hg
    subst hP hw hK
    obtain ⟨⟨old, he⟩, hit, hne, hai, hea⟩ := st
    obtain ⟨xs, hq, hx⟩ := hg
    obtain ⟨its, rv, it0, hz⟩ := I.tuple hq
    obtain ⟨f0, f1, f2, f3, f4, f5⟩ := hf it (by simp)
    have D := Draws.tuple (prog := X.prog) (w := X.w) (A := X.A.in1) (I.ok.hd hc) it a hai its.toArray
    have hl := rv.length
    have hn : its.toArray.size = i := by
      rw [List.size_toArray]
      omega
    refine wpAny_pyNext_enum_endD D he (by rw [hn]; exact ⟨hit, it0⟩) ?_
    intro h' eb
    exact ⟨rfl, I.turned (t' := s.toks) (fun b o hb q => eb b o hb q) f0 f1 f3 f4 f5⟩
  self := fun A i s Q E st h => wpAny_pyIter_enum st.1.choose_spec h
def iEt (K : PySem.W.Frag) (ta : TA) : TI := fun σ H R => ta σ H fun vs H1 => ∃ a xs, vs = [.ref a] ∧ SqT K H1 a xs ∧ R (Iet K a) H1
theorem pi_et {X : Cx} {e : Expr} {ta : TA} {p pos tpos : Pos} {elts : List Expr} {kk : Nat} (hg : Gl X "enumerate") (hm : X.mg "enumerate" = none) (ha : PA X [e] ta) (hs : starEach [e] X.env = [(false, eval e X.env)] := by rfl) :
    PI X (.Tuple elts kk tpos) (.Call (.Name "enumerate" p) [e] [] pos) (iEt X.K ta) := by
  refine ⟨?_⟩
  intro pins s σ H R I h
  refine Call_ (ld_blt I hg hm boot_enumerate (PyProof.Rows.callWith_type1 (thn (ha.run pos pins s σ H _ I h) ?_) hs rfl))
  rintro us s1 ⟨vs, H1, I1, r1, a, xs, rfl, hq, q⟩
  cases r1 with
  | cons r rr =>
    cases rr
    cases r
    obtain ⟨its, rv, it0, hz⟩ := I1.tuple hq
    have hlt : a < s1.heap.objs.size := it0.lt
    refine es_enum_tup it0 ?_
    intro h' he hit hsz hk
    refine wpAny_pyIter_enum he ?_
    have I2 : Inv X pins σ H1 { s1 with heap := h' } := I1.kept (t' := s1.toks) hk
    refine ⟨s1.heap.objs.size + 1, [s1.heap.objs.size + 1, s1.heap.objs.size], _, _, H1, rfl, I2, turn_et a (s1.heap.objs.size + 1) s1.heap.objs.size, ⟨⟨.none, he⟩, hit, Nat.succ_ne_self _, Nat.ne_of_lt hlt, Nat.ne_of_gt (Nat.lt_succ_of_lt hlt)⟩, fun b hb => ?_, q⟩
    have hle : s1.heap.objs.size ≤ b := by
      rcases List.mem_cons.mp hb with z | z
      · subst z
        exact Nat.le_succ _
      · cases List.mem_singleton.mp z
        exact Nat.le_refl _
    exact I1.fpOk hle (I1.hok.fresh hle)
theorem walk_et {K : PySem.W.Frag} {a : Addr} {xs : List V} : Walk (Iet K a) xs.length (fun H => SqT K H a xs) (YPair (fun i => some (.int (i : Nat))) (fun i => xs[i]?)) := by
  refine ⟨fun i _ hi q => ⟨xs, xs[i], q, by simp [hi]⟩, fun _ q => ⟨xs, q, rfl⟩, fun i H v H' _ q y => ?_⟩
  obtain ⟨T, x, h1, h2, h3, h4⟩ := y
  exact ⟨T, .int (i : Nat), x, h1, h2, h3, rfl, h4 xs q⟩
end Es
namespace Es
open PySem PySem.Spec PyProof.Rows L2 Evl
section
variable {X : Cx} {es : List Expr} {t : TA} {pos : Pos}
/-- a written list: its place is none of the interpreter's own -/
def tLst1 (t : TA) : TE := fun σ H Q => t σ H fun xs H1 => xs.length ≤ sizeLine ∧ ∀ p, p ≠ sysModules → H1 p = none → Q (.ref p) (upd H1 p (.lst xs))
theorem pe_lst1 (h : PA X es t) : PE X (.List es pos) (tLst1 t) := by
  refine ⟨?_⟩
  intro pins s σ H Q I hq
  refine wpAny_List_spliced (thn (h.run pos pins s σ H _ I hq) ?_)
  rintro us s1 ⟨xs, H1, I1, r, z, q⟩
  have nf : H1 s1.heap.objs.size = none := I1.hok.fresh (Nat.le_refl _)
  refine ⟨by rw [← r.length]; exact z, .ref s1.heap.objs.size, upd H1 s1.heap.objs.size (.lst xs), I1.laid (t' := s1.toks) (fun b u e => Heap.get?_push_of_some _ e) (Nat.le_refl _) ?_, rfl, q _ (Nat.ne_of_gt I1.big) nf⟩
  exact ⟨z, us, 0, r, Heap.get?_push_size _ rfl⟩
/-- list(a tuple), likewise -/
def rListT1 (K : PySem.W.Frag) : List V → Hp → VK → Prop := fun xs H Q => ∃ p ys, xs = [.ref p] ∧ SqT K H p ys ∧ ∀ l, l ≠ sysModules → H l = none → Q (.ref l) (upd H l (.lst ys))
theorem cr_listT1 : CallR X (.type "list") (rListT1 X.K) := by
  intro pins s σ H xs us Q I r h
  obtain ⟨p, ys, rfl, hq, q⟩ := h
  obtain ⟨u, rfl, rx⟩ := vals1 r
  cases rx
  obtain ⟨its, r', ⟨o, ho, hc, n, hd⟩, hz⟩ := I.tuple hq
  have hl := r'.length
  refine call_list_seq p (.inr rfl) ho hc hd ?_ (by rw [List.size_toArray]; omega)
  intro h' c' kp e
  refine ⟨.ref s.heap.objs.size, _, I.laid (t' := s.toks) kp (Nat.le_refl _) (show ObjOk X.prog X.w _ h' _ (.lst ys) from ⟨hz, its, c', r', e⟩), rfl, q _ (Nat.ne_of_gt I.big) (I.hok.fresh (Nat.le_refl _))⟩
/-- == of a tuple of at most one item with a tuple of one text -/
def rEqT1 (K : PySem.W.Frag) : R2 := fun x y H Q => ∃ a b xs z, x = .ref a ∧ y = .ref b ∧ SqT K H a xs ∧ SqT K H b [.str z] ∧
  ((xs = [] ∧ Q (.bl false) H) ∨ ∃ v d p, xs = [v] ∧ Dd p H v d ∧ Q (.bl (isT z d)) H)
theorem all0 (z : Value) : ((List.range (min (#[] : Array Value).size #[z].size)).all (fun _ => true) && (#[] : Array Value).size == #[z].size) = false := rfl
theorem all1 (y z : Value) (b : Bool) : ((List.range (min #[y].size #[z].size)).all (fun _ => b) && #[y].size == #[z].size) = b := by
  show ((b && true) && true) = b
  cases b <;> rfl
theorem rc_t0 {A : Around} {s : Shared} {a b : Addr} {z : Value} (hu : A.units < cLine) (t1 : s.heap.IsTuple a #[]) (t2 : s.heap.IsTuple b #[z]) : SeqAt.RcAt A s (.ref a) (.ref b) false := by
  have R := SeqAt.RcAt.tuples (e := fun _ => true) t1 t2 hu (fun j h1 _ => absurd h1 (Nat.not_lt_zero _))
  rw [all0] at R
  exact R
theorem rc_t1 {A : Around} {s : Shared} {a b : Addr} {y z : Value} {k : Bool} (hu : A.units < cLine) (t1 : s.heap.IsTuple a #[y]) (t2 : s.heap.IsTuple b #[z]) (he : SeqAt.EqAt A.in1 s y z k) : SeqAt.RcAt A s (.ref a) (.ref b) k := by
  have R := SeqAt.RcAt.tuples (e := fun _ => k) t1 t2 hu (fun j h1 h2 => by
    have hj : j = 0 := by
      have : j < 1 := h1
      omega
    subst hj
    exact he)
  rw [all1] at R
  exact R
theorem vals_nil {us : List Value} (r : Vals [] us) : us = [] := by
  cases r
  rfl
theorem vals_one {v : V} {us : List Value} (r : Vals [v] us) : ∃ u, us = [u] ∧ RelV v u := by
  obtain ⟨u, e, q⟩ := vals1 r
  exact ⟨u, e, q⟩
theorem op_eqT1 (hu : X.A.units + 64 < cLine) : OpR X (compareOp .Eq) (rEqT1 X.K) := by
  intro pins s σ H x y v u Q I rx ry h
  obtain ⟨a, b, xs, z, rfl, rfl, ha, hb, h⟩ := h
  cases rx
  cases ry
  obtain ⟨its, r1, t1, _⟩ := I.tuple ha
  obtain ⟨jts, r2, t2, _⟩ := I.tuple hb
  obtain ⟨w, rfl, hw⟩ := vals_one r2
  obtain ⟨tk, rfl⟩ := hw
  have hu1 : X.A.units < cLine := by omega
  rcases h with ⟨rfl, q⟩ | ⟨v, d, p, rfl, hd, q⟩
  · cases vals_nil r1
    exact rc_t0 hu1 t1 t2 X.prog X.w X.xe _ ⟨.bl false, H, I, rfl, q⟩
  · obtain ⟨w, rfl, hw⟩ := vals_one r1
    exact rc_t1 hu1 t1 t2 (eqAt_dS I hd hw (by show X.A.units + 1 < cLine; omega)) X.prog X.w X.xe _ ⟨.bl (isT z d), H, I, rfl, q⟩
end
section
variable {K : PySem.W.Frag} {p : Option Sx} {H H' : Hp} {v : V} {d : PyData}
def tyD : PyData → String
  | .none => "NoneType"
  | .bool _ => "bool"
  | .int _ => "int"
  | .str _ => "str"
  | .list _ => "list"
  | .tuple _ => "tuple"
  | .dict _ => "dict"
theorem Dd.ty (h : Dd p H v d) : TyX K H v (.type (tyD d)) := by
  cases h with
  | non => exact .base .non
  | bl b => exact .base (.bl b)
  | int i => exact .base (.int i)
  | str x => exact .base (.str x)
  | lst n m h r => exact .base (.lst h)
  | tup n h r => exact .base (.tup h)
  | dk0 n h => exact .base (.dK h)
  | dk1 n h r => exact .base (.dK h)
def isStr : PyData → Bool
  | .str _ => true
  | _ => false
def isTup : PyData → Bool
  | .tuple _ => true
  | _ => false
theorem kit_str (d : PyData) : kitB (tyD d) "str" = some (isStr d) := by
  cases d with
  | none => show kitB "NoneType" "str" = some false; decide +kernel
  | bool b => show kitB "bool" "str" = some false; decide +kernel
  | int i => show kitB "int" "str" = some false; decide +kernel
  | str x => show kitB "str" "str" = some true; decide +kernel
  | list xs => show kitB "list" "str" = some false; decide +kernel
  | tuple xs => show kitB "tuple" "str" = some false; decide +kernel
  | dict kvs => show kitB "dict" "str" = some false; decide +kernel
theorem kit_tup (d : PyData) : kitB (tyD d) "tuple" = some (isTup d) := by
  cases d with
  | none => show kitB "NoneType" "tuple" = some false; decide +kernel
  | bool b => show kitB "bool" "tuple" = some false; decide +kernel
  | int i => show kitB "int" "tuple" = some false; decide +kernel
  | str x => show kitB "str" "tuple" = some false; decide +kernel
  | list xs => show kitB "list" "tuple" = some false; decide +kernel
  | tuple xs => show kitB "tuple" "tuple" = some true; decide +kernel
  | dict kvs => show kitB "dict" "tuple" = some false; decide +kernel
theorem Dd.isiS (h : Dd p H v d) : RC (rIsi K) [v, .ty "str"] H (.bl (isStr d)) := fun H1 e _ q => ⟨v, _, _, _, _, rfl, .ty _, (h.up e).ty, kit_ty (kit_str d), q H1 (Ex.refl _)⟩
theorem Dd.isiT (h : Dd p H v d) : RC (rIsi K) [v, .ty "tuple"] H (.bl (isTup d)) := fun H1 e _ q => ⟨v, _, _, _, _, rfl, .ty _, (h.up e).ty, kit_ty (kit_tup d), q H1 (Ex.refl _)⟩
end
end Es
namespace Es
open PySem PySem.Spec PyProof.Rows L2 Evl
/-! making data while a pot at p is drawn from: k draws at the most -/
/-- the pot, and that the lists are there -/
def PotS (S : Sx) (H : Hp) (c : Int) : Prop := Pot H S.p c ∧ ∀ a, S.m a → ∃ xs, H a = some (.lst xs)
theorem PotS.sn {S : Sx} {H : Hp} {c : Int} (h : PotS S H c) {a : Addr} (n : H a = none) : ¬ out (some S) a := by
  rintro (z | z)
  · exact h.1.ne n z
  · obtain ⟨xs, e⟩ := h.2 a z
    rw [n] at e
    cases e
theorem PotS.ne {S : Sx} {H : Hp} {c : Int} (h : PotS S H c) {a : Addr} (n : H a = none) : a ≠ S.p := h.1.ne n
theorem PotS.more {S : Sx} {H : Hp} {c d : Int} (h : PotS S H c) (e : c ≤ d) : PotS S H d := ⟨h.1.more e, h.2⟩
theorem PotS.up {S : Sx} {H H' : Hp} {c : Int} (h : PotS S H c) (e : Ex H H') : PotS S H' c := ⟨h.1.up e, fun a z => by
  obtain ⟨xs, y⟩ := h.2 a z
  exact ⟨xs, e _ _ y⟩⟩
theorem PotS.step {S : Sx} {H H' : Hp} {c d : Int} (h : PotS S H c) (e : Xp S.p H H') (k : Pot H' S.p d) : PotS S H' d := ⟨k, fun a z => by
  obtain ⟨xs, y⟩ := h.2 a z
  by_cases ha : a = S.p
  · subst ha
    obtain ⟨g, s0, c0, hp, _⟩ := k
    exact ⟨_, hp⟩
  · exact ⟨xs, e _ _ ha y⟩⟩
section
variable (S : Sx)
def EvP (k : Int) (te : TE) (σ : L2.St) (H : Hp) (D : PyData → Prop) : Prop := ∀ H1 c, Xp S.p H H1 → PotS S H1 c → 0 ≤ c → c + k ≤ 90000 → ∀ Q : VK, (∀ v d H2, Xp S.p H1 H2 → PotS S H2 (c + k) → Dd (some S) H2 v d → D d → Q v H2) → te σ H1 Q
def EvPA (k : Int) (ta : TA) (σ : L2.St) (H : Hp) (D : List PyData → Prop) : Prop := ∀ H1 c, Xp S.p H H1 → PotS S H1 c → 0 ≤ c → c + k ≤ 90000 → ∀ Q : List V → Hp → Prop, (∀ vs ds H2, Xp S.p H1 H2 → PotS S H2 (c + k) → DdAll (some S) H2 vs ds → D ds → Q vs H2) → ta σ H1 Q
/-- a list of data, to be read -/
def EvPL (k : Int) (te : TE) (σ : L2.St) (H : Hp) (D : List PyData → Prop) : Prop := ∀ H1 c, Xp S.p H H1 → PotS S H1 c → 0 ≤ c → c + k ≤ 90000 → ∀ Q : VK, (∀ l vs ds H2, Xp S.p H1 H2 → PotS S H2 (c + k) → l ≠ S.p → H2 l = some (.lst vs) → DdAll (some S) H2 vs ds → D ds → Q (.ref l) H2) → te σ H1 Q
end
/-- a tuple of small items -/
def Tu (n : Nat) (d : PyData) : Prop := ∃ ds, d = .tuple ds ∧ Fits n ds
theorem Tu.fit {n : Nat} {d : PyData} (h : Tu n d) : Fit (n + 1) d := by
  obtain ⟨ds, rfl, h⟩ := h
  exact h.tup
def AllFit (n : Nat) (ds : List PyData) : Prop := ∀ d ∈ ds, Fit n d
theorem AllFit.nil {n : Nat} : AllFit n [] := fun _ h => nomatch h
theorem AllFit.cons {n : Nat} {d : PyData} {ds : List PyData} (h : Fit n d) (k : AllFit n ds) : AllFit n (d :: ds) := fun x hx => by
  rcases List.mem_cons.mp hx with e | e
  · rw [e]
    exact h
  · exact k x e
theorem AllFit.app {n : Nat} {ds es : List PyData} (h : AllFit n ds) (k : AllFit n es) : AllFit n (ds ++ es) := fun x hx => by
  rcases List.mem_append.mp hx with e | e
  · exact h x e
  · exact k x e
theorem Fits.app : ∀ {n m : Nat} {ds es : List PyData}, Fits n ds → Fits m es → Fits (n + m) (ds ++ es) := by
  intro n m ds es h k
  obtain ⟨b1, b2, b3, b4⟩ := k
  have : ∀ ds : List PyData, PyData.showableAll (ds ++ es) = (PyData.showableAll ds && PyData.showableAll es) ∧ PyData.leavesShortAll 30 (ds ++ es) = (PyData.leavesShortAll 30 ds && PyData.leavesShortAll 30 es) ∧
      PyData.bulkAll (ds ++ es) = PyData.bulkAll ds + PyData.bulkAll es ∧ PyData.depthAll (ds ++ es) = max (PyData.depthAll ds) (PyData.depthAll es) := by
    intro ds
    induction ds with
    | nil =>
      refine ⟨rfl, rfl, ?_, ?_⟩
      · show PyData.bulkAll es = 0 + PyData.bulkAll es
        omega
      · show PyData.depthAll es = max 0 (PyData.depthAll es)
        omega
    | cons x r ih =>
      obtain ⟨i1, i2, i3, i4⟩ := ih
      refine ⟨?_, ?_, ?_, ?_⟩
      · show (x.showable && PyData.showableAll (r ++ es)) = (x.showable && PyData.showableAll r && PyData.showableAll es)
        rw [i1, Bool.and_assoc]
      · show (x.leavesShort 30 && PyData.leavesShortAll 30 (r ++ es)) = (x.leavesShort 30 && PyData.leavesShortAll 30 r && PyData.leavesShortAll 30 es)
        rw [i2, Bool.and_assoc]
      · show x.bulk + 1 + PyData.bulkAll (r ++ es) = x.bulk + 1 + PyData.bulkAll r + PyData.bulkAll es
        omega
      · show max x.depth (PyData.depthAll (r ++ es)) = max (max x.depth (PyData.depthAll r)) (PyData.depthAll es)
        omega
  obtain ⟨i1, i2, i3, i4⟩ := this ds
  obtain ⟨a1, a2, a3, a4⟩ := h
  exact ⟨by rw [i1, a1, b1]; rfl, by rw [i2, a2, b2]; rfl, by omega, by omega⟩
theorem Fits.sub {n : Nat} {ds : List PyData} (h : Fits n ds) : (∀ i, Fits n (ds.drop i)) ∧ ∀ i, Fits n (ds.take i) := by
  induction ds generalizing n with
  | nil => exact ⟨fun i => by rw [List.drop_nil]; exact h, fun i => by rw [List.take_nil]; exact h⟩
  | cons x r ih =>
    obtain ⟨a1, a2, a3, a4⟩ := h
    have a1' : (x.showable && PyData.showableAll r) = true := a1
    have a2' : (x.leavesShort 30 && PyData.leavesShortAll 30 r) = true := a2
    rw [Bool.and_eq_true] at a1' a2'
    have a3' : x.bulk + 1 + PyData.bulkAll r ≤ 8 * n := a3
    have a4' : max x.depth (PyData.depthAll r) ≤ n := a4
    have k : Fits n r := ⟨a1'.2, a2'.2, by omega, by omega⟩
    refine ⟨fun i => ?_, fun i => ?_⟩
    · cases i with
      | zero => exact ⟨a1, a2, a3, a4⟩
      | succ i => exact (ih k).1 i
    · cases i with
      | zero => exact ⟨rfl, rfl, Nat.zero_le _, Nat.zero_le _⟩
      | succ i =>
        obtain ⟨c1, c2, c3, c4⟩ := (ih (n := PyData.bulkAll r + PyData.depthAll r) ⟨a1'.2, a2'.2, by omega, by omega⟩).2 i
        have c3' : PyData.bulkAll (r.take i) ≤ PyData.bulkAll r ∧ PyData.depthAll (r.take i) ≤ PyData.depthAll r := by
          clear ih k a1 a2 a3 a4 a1' a2' a3' a4' c1 c2 c3 c4
          induction r generalizing i with
          | nil =>
            rw [List.take_nil]
            exact ⟨Nat.le_refl _, Nat.le_refl _⟩
          | cons y s ih2 =>
            cases i with
            | zero => exact ⟨Nat.zero_le _, Nat.zero_le _⟩
            | succ i =>
              have := ih2 i
              refine ⟨?_, ?_⟩
              · show y.bulk + 1 + PyData.bulkAll (s.take i) ≤ y.bulk + 1 + PyData.bulkAll s
                omega
              · show max y.depth (PyData.depthAll (s.take i)) ≤ max y.depth (PyData.depthAll s)
                omega
        refine ⟨?_, ?_, ?_, ?_⟩
        · show (x.showable && PyData.showableAll (r.take i)) = true
          rw [a1'.1, c1]
          rfl
        · show (x.leavesShort 30 && PyData.leavesShortAll 30 (r.take i)) = true
          rw [a2'.1, c2]
          rfl
        · show x.bulk + 1 + PyData.bulkAll (r.take i) ≤ 8 * n
          omega
        · show max x.depth (PyData.depthAll (r.take i)) ≤ n
          omega
section
variable {S : Sx} {K : PySem.W.Frag} {σ : L2.St} {H : Hp} {te tf : TE} {ta : TA} {k j : Int} {D E : PyData → Prop} {L M : List PyData → Prop}
theorem evp_imp (h : EvP S k te σ H D) (hi : ∀ d, D d → E d) : EvP S k te σ H E := fun H1 c x P c0 c1 Q q => h H1 c x P c0 c1 Q fun v d H2 x2 P2 hd hD => q v d H2 x2 P2 hd (hi d hD)
theorem evp_xp {H' : Hp} (h : EvP S k te σ H D) (e : Xp S.p H H') : EvP S k te σ H' D := fun H1 c x P c0 c1 Q q => h H1 c (e.trans x) P c0 c1 Q q
theorem evp_var {i : Nat} {v : V} {d : PyData} (h : σ[i]? = some (some v)) (hd : Dd (some S) H v d) (hD : D d) : EvP S 0 (tVar i) σ H D := fun H1 c x P c0 c1 Q q => ⟨v, h, q v d H1 (Xp.refl _ _) (P.more (by omega)) (hd.xp x) hD⟩
theorem evp_str {z : Str} (hD : D (.str z)) : EvP S 0 (tC (.str z)) σ H D := fun H1 c x P c0 c1 Q q => q _ _ H1 (Xp.refl _ _) (P.more (by omega)) (.str z) hD
theorem evp_int {z : Int} (hD : D (.int z)) : EvP S 0 (tC (.int z)) σ H D := fun H1 c x P c0 c1 Q q => q _ _ H1 (Xp.refl _ _) (P.more (by omega)) (.int z) hD
theorem evp_bl {z : Bool} (hD : D (.bool z)) : EvP S 0 (tC (.bl z)) σ H D := fun H1 c x P c0 c1 Q q => q _ _ H1 (Xp.refl _ _) (P.more (by omega)) (.bl z) hD
theorem evp_non (hD : D .none) : EvP S 0 (tC .non) σ H D := fun H1 c x P c0 c1 Q q => q _ _ H1 (Xp.refl _ _) (P.more (by omega)) .non hD
theorem evpa_nil (h : L []) : EvPA S 0 tNil σ H L := fun H1 c x P c0 c1 Q q => q [] [] H1 (Xp.refl _ _) (P.more (by omega)) .nil h
theorem evpa_cons (h : EvP S k te σ H D) (r : EvPA S j ta σ H L) (hk : 0 ≤ k) (hj : 0 ≤ j) (hL : ∀ d ds, D d → L ds → M (d :: ds)) : EvPA S (k + j) (tCons te ta) σ H M := by
  intro H1 c x P c0 c1 Q q
  refine h H1 c x P c0 (by omega) _ fun v d H2 x2 P2 hd hD => ?_
  exact r H2 (c + k) (x.trans x2) P2 (by omega) (by omega) _ fun vs ds H3 x3 P3 hds hL' => q _ _ H3 (x2.trans x3) (P3.more (by omega)) (.cons (hd.xp x3) hds) (hL d ds hD hL')
theorem evpa_c0 (h : EvP S 0 te σ H D) (r : EvPA S j ta σ H L) (hj : 0 ≤ j) (hL : ∀ d ds, D d → L ds → M (d :: ds)) : EvPA S j (tCons te ta) σ H M := by
  have := evpa_cons h r (by decide) hj hL
  rw [Int.zero_add] at this
  exact this
/-- items of a tuple, their sizes added up -/
theorem evpa_t {n m : Nat} (h : EvP S 0 te σ H (Fit n)) (r : EvPA S j ta σ H (Fits m)) (hj : 0 ≤ j) : EvPA S j (tCons te ta) σ H (Fits (n + 1 + m)) := evpa_c0 h r hj fun _ _ a b => Fits.cons a b
theorem evpa_tk {n m : Nat} (h : EvP S k te σ H (Fit n)) (r : EvPA S j ta σ H (Fits m)) (hk : 0 ≤ k) (hj : 0 ≤ j) : EvPA S (k + j) (tCons te ta) σ H (Fits (n + 1 + m)) := evpa_cons h r hk hj fun _ _ a b => Fits.cons a b
theorem evpa_l {n : Nat} (h : EvP S 0 te σ H (Fit n)) (r : EvPA S j ta σ H (AllFit n)) (hj : 0 ≤ j) : EvPA S j (tCons te ta) σ H (AllFit n) := evpa_c0 h r hj fun _ _ a b => AllFit.cons a b
theorem evpa_lk {n : Nat} (h : EvP S k te σ H (Fit n)) (r : EvPA S j ta σ H (AllFit n)) (hk : 0 ≤ k) (hj : 0 ≤ j) : EvPA S (k + j) (tCons te ta) σ H (AllFit n) := evpa_cons h r hk hj fun _ _ a b => AllFit.cons a b
theorem Fits.length {n : Nat} {ds : List PyData} (h : Fits n ds) : ds.length ≤ 8 * n := by
  have h3 := h.2.2.1
  clear h
  generalize 8 * n = m at h3
  clear n
  induction ds generalizing m with
  | nil => exact Nat.zero_le _
  | cons y r ih =>
    have h3' : y.bulk + 1 + PyData.bulkAll r ≤ m := h3
    have := ih (m - 1) (by omega)
    show r.length + 1 ≤ m
    omega
theorem evp_tup {n : Nat} (h : EvPA S k ta σ H (Fits n)) (hn : n ≤ 10000) : EvP S k (tTup ta) σ H (Tu n) := by
  intro H1 c x P c0 c1 Q q
  refine h H1 c x P c0 c1 _ fun vs ds H2 x2 P2 hds hL => ⟨?_, fun a na => ?_⟩
  · have l1 := hds.length
    have := hL.length
    exact sz_of (by omega)
  · have e := Ex.new (o := .tup vs) na
    exact q _ _ _ (x2.trans (Xp.ex e)) (P2.up e) (.tup (P2.sn na) upd_same (hds.up e)) ⟨ds, rfl, hL⟩
theorem evp_tup' {n m : Nat} (h : EvPA S k ta σ H (Fits n)) (hn : n + 1 ≤ m) (hm : m ≤ 10000) : EvP S k (tTup ta) σ H (Fit m) := evp_imp (evp_tup h (by omega)) fun d hd => hd.fit.more hn
theorem evp_cat {n m : Nat} (h : EvP S k te σ H (Tu n)) (r : EvP S j tf σ H (Tu m)) (hk : 0 ≤ k) (hj : 0 ≤ j) (hn : n + m ≤ 10000) : EvP S (k + j) (tOp (rCatA K) te tf) σ H (Tu (n + m)) := by
  intro H1 c x P c0 c1 Q q
  refine h H1 c x P c0 (by omega) _ fun v d H2 x2 P2 hd hD => ?_
  refine r H2 (c + k) (x.trans x2) P2 (by omega) (by omega) _ fun u e H3 x3 P3 he hE => ?_
  obtain ⟨ds, rfl, f1⟩ := hD
  obtain ⟨es, rfl, f2⟩ := hE
  have hd3 := hd.xp x3
  have l1 := f1.length
  have l2 := f2.length
  cases hd3 with
  | @tup a xs _ na ha hxs =>
    cases he with
    | @tup b ys _ nb hb hys =>
      have m1 := hxs.length
      have m2 := hys.length
      refine ⟨a, b, xs, ys, rfl, rfl, st_of ha, st_of hb, sz_of (by omega), fun z => ?_, fun _ z => ?_, fun _ _ t nt => ?_⟩
      · subst z
        cases hxs
        exact q _ _ H3 (x2.trans x3) (P3.more (by omega)) (.tup nb hb hys) ⟨es, rfl, f2.more (by omega)⟩
      · subst z
        cases hys
        exact q _ _ H3 (x2.trans x3) (P3.more (by omega)) (.tup na ha hxs) ⟨ds, rfl, f1.more (by omega)⟩
      · have e := Ex.new (o := .tup (xs ++ ys)) nt
        exact q _ _ _ ((x2.trans x3).trans (Xp.ex e)) ((P3.up e).more (by omega)) (.tup (P3.sn nt) upd_same ((hxs.append hys).up e)) ⟨_, rfl, f1.app f2⟩
theorem evp_cat0 {n m : Nat} (h : EvP S 0 te σ H (Tu n)) (r : EvP S 0 tf σ H (Tu m)) (hn : n + m ≤ 10000) : EvP S 0 (tOp (rCatA K) te tf) σ H (Tu (n + m)) := evp_cat h r (by decide) (by decide) hn
/-- t[:i], t[i:] of a tuple at a name -/
theorem evp_cutL {i : Nat} {a : Addr} {xs : List V} {ds : List PyData} {n : Nat} {tl : TO} {u : Int} (h : σ[i]? = some (some (.ref a))) (hd : Dd (some S) H (.ref a) (.tuple ds)) (f : Fits n ds) (hu : 0 ≤ u)
    (ho : ∀ H1 (Q : Option Int → Hp → Prop), Q (some u) H1 → tl σ H1 Q) : EvP S 0 (tSl (rSlA K) (tVar i) tNoPart tl) σ H (Tu n) := by
  intro H1 c x P c0 c1 Q q
  have hd1 := hd.xp x
  cases hd1 with
  | @tup _ xs _ na ha hxs =>
    refine ⟨.ref a, h, ho H1 _ ⟨a, xs, rfl, st_of ha, fun _ => ?_, fun _ t nt => ?_⟩⟩
    · exact q _ _ H1 (Xp.refl _ _) (P.more (by omega)) (.tup na ha hxs) ⟨ds, rfl, f⟩
    · have e := Ex.new (o := .tup (cutV xs none (some u))) nt
      have hc : DdAll (some S) H1 (cutV xs none (some u)) (ds.take (min u.toNat ds.length)) := by
        have m1 := hxs.length
        unfold cutV
        rw [HT.sIx_none, List.drop_zero, Nat.sub_zero, show (some u) = some ((u.toNat : Nat) : Int) by rw [Int.toNat_of_nonneg hu], HT.sIx_nat, m1]
        exact hxs.take _
      exact q _ _ _ (Xp.ex e) ((P.up e).more (by omega)) (.tup (P.sn nt) upd_same (hc.up e)) ⟨_, rfl, f.sub.2 _⟩
theorem evp_cutR {i : Nat} {a : Addr} {xs : List V} {ds : List PyData} {n : Nat} {tl : TO} {u : Int} (h : σ[i]? = some (some (.ref a))) (hd : Dd (some S) H (.ref a) (.tuple ds)) (f : Fits n ds) (hu : 0 ≤ u)
    (ho : ∀ H1 (Q : Option Int → Hp → Prop), Q (some u) H1 → tl σ H1 Q) : EvP S 0 (tSl (rSlA K) (tVar i) tl tNoPart) σ H (Tu n) := by
  intro H1 c x P c0 c1 Q q
  have hd1 := hd.xp x
  cases hd1 with
  | @tup _ xs _ na ha hxs =>
    refine ⟨.ref a, h, ho H1 _ ⟨a, xs, rfl, st_of ha, fun _ => ?_, fun _ t nt => ?_⟩⟩
    · exact q _ _ H1 (Xp.refl _ _) (P.more (by omega)) (.tup na ha hxs) ⟨ds, rfl, f⟩
    · have e := Ex.new (o := .tup (cutV xs (some u) none)) nt
      have hc : DdAll (some S) H1 (cutV xs (some u) none) (ds.drop (min u.toNat ds.length)) := by
        have m1 := hxs.length
        unfold cutV
        rw [HT.sIx_none, show (some u) = some ((u.toNat : Nat) : Int) by rw [Int.toNat_of_nonneg hu], HT.sIx_nat, List.take_of_length_le (by rw [List.length_drop]; omega), m1]
        exact hxs.drop _
      exact q _ _ _ (Xp.ex e) ((P.up e).more (by omega)) (.tup (P.sn nt) upd_same (hc.up e)) ⟨_, rfl, f.sub.1 _⟩
/-- lists of data -/
theorem evl_lst {N : Nat} (h : EvPA S k ta σ H (fun ds => L ds ∧ ds.length = N)) (hN : N ≤ 10000) : EvPL S k (tLst ta) σ H (fun ds => L ds ∧ ds.length = N) := by
  intro H1 c x P c0 c1 Q q
  refine h H1 c x P c0 c1 _ fun vs ds H2 x2 P2 hds hL => ⟨?_, fun l nl => ?_⟩
  · have := hds.length
    have := hL.2
    exact sz_of (by omega)
  · have e := Ex.new (o := .lst vs) nl
    exact q l vs ds _ (x2.trans (Xp.ex e)) (P2.up e) (P2.ne nl) upd_same (hds.up e) hL
theorem evl_var {i : Nat} {l : Addr} {vs : List V} {ds : List PyData} (h : σ[i]? = some (some (.ref l))) (nl : l ≠ S.p) (hl : H l = some (.lst vs)) (hd : DdAll (some S) H vs ds) (hL : L ds) : EvPL S 0 (tVar i) σ H L :=
  fun H1 c x P c0 c1 Q q => ⟨.ref l, h, q l vs ds H1 (Xp.refl _ _) (P.more (by omega)) nl (x _ _ nl hl) (hd.xp x) hL⟩
theorem evl_cat {A B : Nat} (h : EvPL S k te σ H (fun ds => L ds ∧ ds.length = A)) (r : EvPL S j tf σ H (fun ds => L ds ∧ ds.length = B)) (hk : 0 ≤ k) (hj : 0 ≤ j) (hn : A + B ≤ 10000) (hL : ∀ ds es, L ds → L es → L (ds ++ es)) :
    EvPL S (k + j) (tOp rCat te tf) σ H (fun ds => L ds ∧ ds.length = A + B) := by
  intro H1 c x P c0 c1 Q q
  refine h H1 c x P c0 (by omega) _ fun l vs ds H2 x2 P2 nl hl hds hD => ?_
  refine r H2 (c + k) (x.trans x2) P2 (by omega) (by omega) _ fun m ws es H3 x3 P3 nm hm hes hE => ?_
  have l1 := hds.length
  have l2 := hes.length
  have d1 := hD.2
  have d2 := hE.2
  refine ⟨l, m, vs, ws, rfl, rfl, x3 _ _ nl hl, hm, sz_of (by omega), fun a na => ?_⟩
  have e := Ex.new (o := .lst (vs ++ ws)) na
  refine q a _ (ds ++ es) _ ((x2.trans x3).trans (Xp.ex e)) ((P3.up e).more (by omega)) (P3.ne na) upd_same (((hds.xp x3).append hes).up e) ⟨hL _ _ hD.1 hE.1, ?_⟩
  rw [List.length_append]
  omega
theorem evpa_n {N : Nat} (h : EvPA S k ta σ H (AllFit N)) : EvPA S k ta σ H (AllFit N) := h
/-- the same with the number of items told -/
theorem evpan_nil {n : Nat} : EvPA S 0 tNil σ H (fun ds => AllFit n ds ∧ ds.length = 0) := evpa_nil ⟨.nil, rfl⟩
theorem evpan {n m : Nat} (h : EvP S 0 te σ H (Fit n)) (r : EvPA S j ta σ H (fun ds => AllFit n ds ∧ ds.length = m)) (hj : 0 ≤ j) : EvPA S j (tCons te ta) σ H (fun ds => AllFit n ds ∧ ds.length = m + 1) :=
  evpa_c0 h r hj fun _ _ a b => ⟨.cons a b.1, congrArg Nat.succ b.2⟩
theorem evpank {n m : Nat} (h : EvP S k te σ H (Fit n)) (r : EvPA S j ta σ H (fun ds => AllFit n ds ∧ ds.length = m)) (hk : 0 ≤ k) (hj : 0 ≤ j) : EvPA S (k + j) (tCons te ta) σ H (fun ds => AllFit n ds ∧ ds.length = m + 1) :=
  evpa_cons h r hk hj fun _ _ a b => ⟨.cons a b.1, congrArg Nat.succ b.2⟩
theorem evp_lst1 {n : Nat} (h : EvPA S k ta σ H (Fits n)) (hn : n ≤ 10000) : EvP S k (tLst1 ta) σ H (Fit (n + 1)) := by
  intro H1 c x P c0 c1 Q q
  refine h H1 c x P c0 c1 _ fun vs ds H2 x2 P2 hds hL => ⟨?_, fun a ns na => ?_⟩
  · have l1 := hds.length
    have := hL.length
    exact sz_of (by omega)
  · have e := Ex.new (o := .lst vs) na
    exact q _ _ _ (x2.trans (Xp.ex e)) (P2.up e) (.lst (P2.sn na) ns upd_same (hds.up e)) hL.lst
theorem evp_dk0 : EvP S 0 tDNewK σ H (Fit 1) := fun H1 c x P c0 c1 Q q a na => by
  have e := Ex.new (o := .dK []) na
  exact q _ _ _ (Xp.ex e) ((P.up e).more (by omega)) (.dk0 (P.sn na) upd_same) fit_dk0
theorem evp_dk1 {n i : Nat} {z : Str} {v : V} {d : PyData} (h : σ[i]? = some (some v)) (hd : Dd (some S) H v d) (hf : Fit n d) (hz : (z.cps.toList.all fun c => decide (c < 16 ^ 8)) = true) (hl : z.length ≤ 10) : EvP S 0 (tDisp [(tC (.str z), tVar i)]) σ H (Fit (n + 13)) := by
  intro H1 c x P c0 c1 Q q a na
  refine ⟨v, h, upd_same, [(Sum.inr z, v)], rfl, by show 1 ≤ 15; decide, ?_⟩
  have e := Ex.mut (o := .dK (mergeK [] [(Sum.inr z, v)])) (Ex.new (o := .dK []) na) na
  exact q _ _ _ (Xp.ex e) ((P.up e).more (by omega)) (.dk1 (P.sn na) upd_same ((hd.xp x).up e)) (fit_dk1 hz hl hf)
theorem evp_neg {i : Int} (hD : D (.int (-i))) : EvP S 0 (tUn (rU fun i => .int (-i)) (tC (.int i))) σ H D := fun H1 c x P c0 c1 Q q => ⟨i, rfl, q _ _ H1 (Xp.refl _ _) (P.more (by omega)) (.int _) hD⟩
theorem DdAll.mem : ∀ {vs : List V} {ds : List PyData} {v : V}, DdAll (some S) H vs ds → v ∈ vs → ∃ d ∈ ds, Dd (some S) H v d
  | _, _, _, .cons h r, hv => by
    rcases List.mem_cons.mp hv with e | e
    · subst e
      exact ⟨_, List.mem_cons_self .., h⟩
    · obtain ⟨d, a, b⟩ := DdAll.mem r e
      exact ⟨d, List.mem_cons_of_mem _ a, b⟩
theorem evp_listT {n i : Nat} {a : Addr} {ds : List PyData} (h : σ[i]? = some (some (.ref a))) (hd : Dd (some S) H (.ref a) (.tuple ds)) (hf : Fits n ds) : EvP S 0 (tCB (rListT1 K) (tCons (tVar i) tNil)) σ H (Fit (n + 1)) := by
  intro H1 c x P c0 c1 Q q
  have hd1 := hd.xp x
  cases hd1 with
  | @tup _ xs _ na ha hxs =>
    refine ⟨.ref a, h, a, xs, rfl, st_of ha, fun l ns nl => ?_⟩
    have e := Ex.new (o := .lst xs) nl
    exact q _ _ _ (Xp.ex e) ((P.up e).more (by omega)) (.lst (P.sn nl) ns upd_same (hxs.up e)) hf.lst
theorem qp_asg {F : Ends} {tz : TS} {i : Nat} (h : te σ H fun v H1 => tz F (σ.set i (some v)) H1) : tSeq (tAsg te (gName i)) tz F σ H := h
theorem sp_asg {F : Ends} {i : Nat} (h : te σ H fun v H1 => F.nx (σ.set i (some v)) H1) : tAsg te (gName i) F σ H := h
theorem op_of {r : R2} {Q : VK} (h : te σ H fun x H1 => tf σ H1 fun y H2 => r x y H2 Q) : tOp r te tf σ H Q := h
theorem cons_of {Q : List V → Hp → Prop} (h : te σ H fun x H1 => ta σ H1 fun xs H2 => Q (x :: xs) H2) : tCons te ta σ H Q := h
theorem call_of {sp : Sp} {dvs : List V} {E : XK} {Q : VK} (h : ta σ H fun vs H1 => sp (vs ++ dvs) H1 Q E) : tCall sp dvs E ta σ H Q := h
end
end Es
section
open PySem PySem.Sem PySem.Builtin PySem.Builtin.List
/-- a list grows by a tuple's items -/
theorem PySem.es_ext (l : Addr) (its : Array Value) (n : Nat) (b : Addr) (jts : Array Value) (n2 : Nat) (dd : Option Addr) (sl : Array (Option Value)) (hs0 : ¬(!its.isEmpty && listTooLong (its.size + jts.size)) = true)
    (hs1 : its.size ≤ sizeLine) (hs2 : its.size + jts.size ≤ sizeLine + 1) :
    Meets (Builtin.«list.extend» ⟨[.ref l, .ref b], []⟩) (fun _ R s => s.heap.get? l = some { cls := .type "list", dict := none, data := .seq its n, slots := #[] } ∧
      s.heap.get? b = some { cls := .type "tuple", dict := dd, data := .seq jts n2, slots := sl } ∧ R (.ok (.ret Value.none)) { s with heap := s.heap.update l (Obj.mapSeq fun x => x ++ jts), toks := s.toks }) :=
  .of_wp fun prog w A R s h => by
    obtain ⟨hp, g, d, tk, os⟩ := s
    obtain ⟨hl, hb, h⟩ := h
    have f1 := F.sub_tuple_tuple
    have f2 := F.sub_list_list
    have f3 := F.sub_tuple_list
    have f4 := F.sub_list_tuple
    have hz' : (its ++ jts).size ≤ sizeLine + 1 := by
      rw [Array.size_append]
      exact hs2
    wp_walk using (wpAny_updateSeq hl rfl (hz := hs1) (_hz' := hz')), wpAny_loadPart' hl, wpAny_loadPart' hb
    exact ⟨_, rfl, h⟩
end
namespace Es
open PySem PySem.Spec PyProof.Rows L2 Evl
/-- expressions -/
inductive Tr where
  | leaf (k n : Str)
  | node (k : Str) (ps : List Tr)
mutual
def Tr.toD : Tr → PyData
  | .leaf k n => .tuple [.str k, .str n]
  | .node k ps => .tuple (.str k :: Tr.toDs ps)
def Tr.toDs : List Tr → List PyData
  | [] => []
  | t :: r => t.toD :: Tr.toDs r
end
mutual
/-- the leaves from left to right -/
def Tr.lv : Tr → List Tr
  | .leaf k n => [.leaf k n]
  | .node _ ps => Tr.lvs ps
def Tr.lvs : List Tr → List Tr
  | [] => []
  | t :: r => t.lv ++ Tr.lvs r
end
mutual
def Tr.dep : Tr → Nat
  | .leaf _ _ => 0
  | .node _ ps => Tr.deps ps + 1
def Tr.deps : List Tr → Nat
  | [] => 0
  | t :: r => max t.dep (Tr.deps r)
end
def leafKinds : List Str := ["token", "block"]
def nodeKinds : List Str := ["repeat", "optional", "sequence", "choice"]
def names : List Str := ["a", "num", "b", "x", "abcdefgh"]
mutual
def Tr.ok : Tr → Prop
  | .leaf k n => k ∈ leafKinds ∧ n ∈ names
  | .node k ps => k ∈ nodeKinds ∧ ps ≠ [] ∧ Tr.oks ps
def Tr.oks : List Tr → Prop
  | [] => True
  | t :: r => t.ok ∧ Tr.oks r
end
mutual
def Tr.big : Tr → Nat
  | .leaf _ _ => 15
  | .node _ ps => 9 + Tr.bigs ps
def Tr.bigs : List Tr → Nat
  | [] => 0
  | t :: r => t.big + 1 + Tr.bigs r
end
mutual
/-- where an expression stands: not at p -/
inductive TrAt (p : Addr) (H : Hp) : V → Tr → Prop
  | leaf {a : Addr} {k n : Str} : a ≠ p → H a = some (.tup [.str k, .str n]) → TrAt p H (.ref a) (.leaf k n)
  | node {a : Addr} {k : Str} {vs : List V} {ps : List Tr} : a ≠ p → H a = some (.tup (.str k :: vs)) → TrAll p H vs ps → TrAt p H (.ref a) (.node k ps)
inductive TrAll (p : Addr) (H : Hp) : List V → List Tr → Prop
  | nil : TrAll p H [] []
  | cons {v : V} {vs : List V} {t : Tr} {ts : List Tr} : TrAt p H v t → TrAll p H vs ts → TrAll p H (v :: vs) (t :: ts)
end
section
variable {p : Addr} {H H' : Hp} {K : PySem.W.Frag}
mutual
theorem TrAt.xp (e : Xp p H H') : ∀ {v : V} {t : Tr}, TrAt p H v t → TrAt p H' v t
  | _, _, .leaf n h => .leaf n (e _ _ n h)
  | _, _, .node n h r => .node n (e _ _ n h) (TrAll.xp e r)
theorem TrAll.xp (e : Xp p H H') : ∀ {vs : List V} {ts : List Tr}, TrAll p H vs ts → TrAll p H' vs ts
  | _, _, .nil => .nil
  | _, _, .cons h r => .cons (TrAt.xp e h) (TrAll.xp e r)
end
theorem TrAt.up {v : V} {t : Tr} (h : TrAt p H v t) (e : Ex H H') : TrAt p H' v t := h.xp (Xp.ex e)
theorem TrAll.up {v : List V} {t : List Tr} (h : TrAll p H v t) (e : Ex H H') : TrAll p H' v t := h.xp (Xp.ex e)
mutual
theorem TrAt.dp : ∀ {v : V} {t : Tr}, TrAt p H v t → Dp K H v t.toD
  | _, _, .leaf _ h => .tup (st_of h) (.cons (.str _) (.cons (.str _) .nil))
  | _, _, .node _ h r => .tup (st_of h) (.cons (.str _) (TrAll.dp r))
theorem TrAll.dp : ∀ {vs : List V} {ts : List Tr}, TrAll p H vs ts → DpAll K H vs (Tr.toDs ts)
  | _, _, .nil => .nil
  | _, _, .cons h r => .cons (TrAt.dp h) (TrAll.dp r)
end
mutual
theorem TrAt.mutL {l : Addr} {xs ys : List V} (hl : H l = some (.lst xs)) : ∀ {v : V} {t : Tr}, TrAt p H v t → TrAt p (upd H l (.lst ys)) v t
  | _, _, .leaf n h => .leaf n (by rw [upd_ne (ne_of h hl (by intro z; cases z))]; exact h)
  | _, _, .node n h r => .node n (by rw [upd_ne (ne_of h hl (by intro z; cases z))]; exact h) (TrAll.mutL hl r)
theorem TrAll.mutL {l : Addr} {xs ys : List V} (hl : H l = some (.lst xs)) : ∀ {vs : List V} {ts : List Tr}, TrAll p H vs ts → TrAll p (upd H l (.lst ys)) vs ts
  | _, _, .nil => .nil
  | _, _, .cons h r => .cons (TrAt.mutL hl h) (TrAll.mutL hl r)
end
theorem TrAll.append : ∀ {vs ws : List V} {ts us : List Tr}, TrAll p H vs ts → TrAll p H ws us → TrAll p H (vs ++ ws) (ts ++ us)
  | _, _, _, _, .nil, h => h
  | _, _, _, _, .cons h r, k => .cons h (TrAll.append r k)
theorem TrAll.length : ∀ {vs : List V} {ts : List Tr}, TrAll p H vs ts → vs.length = ts.length
  | _, _, .nil => rfl
  | _, _, .cons _ r => by rw [List.length_cons, List.length_cons, TrAll.length r]
theorem TrAll.get : ∀ {vs : List V} {ts : List Tr} {i : Nat} {v : V}, TrAll p H vs ts → vs[i]? = some v → ∃ t, ts[i]? = some t ∧ TrAt p H v t
  | _, _, 0, _, .cons h _, e => ⟨_, rfl, by cases e; exact h⟩
  | _, _, i + 1, _, .cons _ r, e => TrAll.get (i := i) r e
end
theorem oks_get : ∀ {ts : List Tr} {i : Nat} {t : Tr}, Tr.oks ts → ts[i]? = some t → t.ok
  | t :: _, 0, _, h, e => by cases e; exact h.1
  | _ :: r, i + 1, _, h, e => oks_get (i := i) h.2 e
theorem deps_get : ∀ {ts : List Tr} {i : Nat} {t : Tr}, ts[i]? = some t → t.dep ≤ Tr.deps ts
  | t :: r, 0, _, e => by cases e; exact Nat.le_max_left _ _
  | t :: r, i + 1, _, e => Nat.le_trans (deps_get (i := i) e) (Nat.le_max_right _ _)
theorem bigs_get : ∀ {ts : List Tr} {i : Nat} {t : Tr}, ts[i]? = some t → t.big + 1 ≤ Tr.bigs ts
  | t :: r, 0, _, e => by
    cases e
    show t.big + 1 ≤ t.big + 1 + Tr.bigs r
    omega
  | t :: r, i + 1, u, e => by
    have := bigs_get (i := i) (t := u) (ts := r) e
    show u.big + 1 ≤ t.big + 1 + Tr.bigs r
    omega
theorem lvs_snoc : ∀ (ts : List Tr) (i : Nat) (t : Tr), ts[i]? = some t → Tr.lvs (ts.take (i + 1)) = Tr.lvs (ts.take i) ++ t.lv
  | x :: r, 0, t, e => by
    cases e
    show x.lv ++ Tr.lvs (r.take 0) = [] ++ x.lv
    rw [List.take_zero]
    show x.lv ++ [] = [] ++ x.lv
    simp
  | x :: r, i + 1, t, e => by
    show x.lv ++ Tr.lvs (r.take (i + 1)) = (x.lv ++ Tr.lvs (r.take i)) ++ t.lv
    rw [lvs_snoc r i t e, List.append_assoc]
/-! what its writing asks -/
theorem kind_small : ∀ k ∈ leafKinds ++ nodeKinds, k.cps.size ≤ 8 ∧ (k.cps.toList.all fun c => decide (c < 16 ^ 8)) = true := by decide +kernel
theorem name_small : ∀ k ∈ names, k.cps.size ≤ 8 ∧ (k.cps.toList.all fun c => decide (c < 16 ^ 8)) = true := by decide +kernel
theorem lk_size : ∀ k ∈ leafKinds, k.cps.size = 5 := by decide +kernel
mutual
theorem ok_show : ∀ t : Tr, t.ok → t.toD.showable = true ∧ t.toD.hasDict = false ∧ t.toD.leavesShort 30 = true ∧ t.toD.bulk ≤ t.big ∧ t.toD.depth ≤ t.dep + 1
  | .leaf k n, h => by
    obtain ⟨h1, h2⟩ := h
    have a := kind_small k (List.mem_append_left _ h1)
    have b := name_small n h2
    have c := lk_size k h1
    refine ⟨rfl, rfl, ?_, ?_, by show max 0 (max 0 0) + 1 ≤ 0 + 1; decide⟩
    · show ((k.cps.toList.all fun c => decide (c < 16 ^ 8)) && ((n.cps.toList.all fun c => decide (c < 16 ^ 8)) && true)) = true
      rw [a.2, b.2]
      rfl
    · show k.cps.size + 1 + (n.cps.size + 1 + 0) ≤ 15
      omega
  | .node k ps, h => by
    obtain ⟨h1, _, h3⟩ := h
    have a := kind_small k (List.mem_append_right _ h1)
    obtain ⟨r1, r2, r3, r4, r5⟩ := oks_show ps h3
    refine ⟨?_, ?_, ?_, ?_, ?_⟩
    · show (true && PyData.showableAll (Tr.toDs ps)) = true
      rw [r1]
      rfl
    · show (false || PyData.hasDictAll (Tr.toDs ps)) = false
      rw [r2]
      rfl
    · show ((k.cps.toList.all fun c => decide (c < 16 ^ 8)) && PyData.leavesShortAll 30 (Tr.toDs ps)) = true
      rw [a.2, r3]
      rfl
    · show k.cps.size + 1 + PyData.bulkAll (Tr.toDs ps) ≤ 9 + Tr.bigs ps
      omega
    · show max 0 (PyData.depthAll (Tr.toDs ps)) + 1 ≤ Tr.deps ps + 1 + 1
      omega
theorem oks_show : ∀ ts : List Tr, Tr.oks ts → PyData.showableAll (Tr.toDs ts) = true ∧ PyData.hasDictAll (Tr.toDs ts) = false ∧ PyData.leavesShortAll 30 (Tr.toDs ts) = true ∧ PyData.bulkAll (Tr.toDs ts) ≤ Tr.bigs ts ∧ PyData.depthAll (Tr.toDs ts) ≤ Tr.deps ts + 1
  | [], _ => ⟨rfl, rfl, rfl, Nat.le_refl _, Nat.zero_le _⟩
  | t :: r, h => by
    obtain ⟨a1, a2, a3, a4, a5⟩ := ok_show t h.1
    obtain ⟨b1, b2, b3, b4, b5⟩ := oks_show r h.2
    refine ⟨?_, ?_, ?_, ?_, ?_⟩
    · show (t.toD.showable && PyData.showableAll (Tr.toDs r)) = true
      rw [a1, b1]
      rfl
    · show (t.toD.hasDict || PyData.hasDictAll (Tr.toDs r)) = false
      rw [a2, b2]
      rfl
    · show (t.toD.leavesShort 30 && PyData.leavesShortAll 30 (Tr.toDs r)) = true
      rw [a3, b3]
      rfl
    · show t.toD.bulk + 1 + PyData.bulkAll (Tr.toDs r) ≤ t.big + 1 + Tr.bigs r
      omega
    · show max t.toD.depth (PyData.depthAll (Tr.toDs r)) ≤ max t.dep (Tr.deps r) + 1
      omega
end
/-- what repr wants of data -/
def Fine (d : PyData) : Prop := d.showable = true ∧ d.hasDict = false ∧ d.depth ≤ 60 ∧ d.shown.length ≤ 100000
theorem fine_of {d : PyData} {n : Nat} (h1 : d.showable = true) (h2 : d.hasDict = false) (h3 : d.leavesShort 30 = true) (h4 : d.bulk ≤ n) (hn : n ≤ 3000) (h5 : d.depth ≤ 60) : Fine d := by
  refine ⟨h1, h2, h5, ?_⟩
  have := PyData.shown_le_bulk 30 (by decide) d h3
  omega
theorem fine_tr {t : Tr} (h : t.ok) (hb : t.big ≤ 3000) (hd : t.dep ≤ 50) : Fine t.toD := by
  obtain ⟨h1, h2, h3, h4, h5⟩ := ok_show t h
  exact fine_of h1 h2 h3 h4 hb (by omega)
theorem fine_trs {ts : List Tr} (h : Tr.oks ts) (hb : Tr.bigs ts ≤ 3000) (hd : Tr.deps ts ≤ 50) : Fine (.tuple (Tr.toDs ts)) := by
  obtain ⟨h1, h2, h3, h4, h5⟩ := oks_show ts h
  refine fine_of (n := Tr.bigs ts) h1 h2 h3 h4 hb ?_
  show PyData.depthAll (Tr.toDs ts) + 1 ≤ 60
  omega
theorem rc_repr {K : PySem.W.Frag} {H : Hp} {a : Addr} {d : PyData} (h : Dp K H (.ref a) d) (f : Fine d) (up : ∀ H1, Ex H H1 → Dp K H1 (.ref a) d) : RC (rReprD K) [.ref a] H (.str d.shown) := fun H1 e _ q =>
  ⟨a, d, rfl, up H1 e, f.1, f.2.1, f.2.2.1, sz_of f.2.2.2, q H1 (Ex.refl _)⟩
mutual
theorem lv_ok : ∀ t : Tr, t.ok → Tr.oks t.lv ∧ Tr.bigs t.lv ≤ t.big + 1 ∧ Tr.deps t.lv = 0
  | .leaf k n, h => ⟨⟨h, trivial⟩, Nat.le_refl _, rfl⟩
  | .node k ps, h => by
    obtain ⟨a, b, c⟩ := lvs_ok ps h.2.2
    exact ⟨a, by show Tr.bigs (Tr.lvs ps) ≤ 9 + Tr.bigs ps + 1; omega, c⟩
theorem lvs_ok : ∀ ts : List Tr, Tr.oks ts → Tr.oks (Tr.lvs ts) ∧ Tr.bigs (Tr.lvs ts) ≤ Tr.bigs ts ∧ Tr.deps (Tr.lvs ts) = 0
  | [], _ => ⟨trivial, Nat.le_refl _, rfl⟩
  | t :: r, h => by
    obtain ⟨a, b, c⟩ := lv_ok t h.1
    obtain ⟨a', b', c'⟩ := lvs_ok r h.2
    refine ⟨oks_app a a', ?_, ?_⟩
    · show Tr.bigs (t.lv ++ Tr.lvs r) ≤ t.big + 1 + Tr.bigs r
      rw [bigs_app]
      omega
    · show Tr.deps (t.lv ++ Tr.lvs r) = 0
      rw [deps_app, c, c']
      rfl
theorem lvs_take : ∀ (ts : List Tr) (i : Nat), Tr.oks ts → Tr.bigs (Tr.lvs (ts.take i)) ≤ Tr.bigs ts
  | [], i, _ => by rw [List.take_nil]; exact Nat.le_refl _
  | t :: r, 0, _ => Nat.zero_le _
  | t :: r, i + 1, h => by
    have a := (lv_ok t h.1).2.1
    have b := lvs_take r i h.2
    show Tr.bigs (t.lv ++ Tr.lvs (r.take i)) ≤ t.big + 1 + Tr.bigs r
    rw [bigs_app]
    omega
theorem oks_app : ∀ {ts us : List Tr}, Tr.oks ts → Tr.oks us → Tr.oks (ts ++ us)
  | [], _, _, h => h
  | t :: r, _, h, k => ⟨h.1, oks_app h.2 k⟩
theorem bigs_app : ∀ (ts us : List Tr), Tr.bigs (ts ++ us) = Tr.bigs ts + Tr.bigs us
  | [], us => by show Tr.bigs us = 0 + Tr.bigs us; omega
  | t :: r, us => by
    show t.big + 1 + Tr.bigs (r ++ us) = t.big + 1 + Tr.bigs r + Tr.bigs us
    rw [bigs_app r us]
    omega
theorem deps_app : ∀ (ts us : List Tr), Tr.deps (ts ++ us) = max (Tr.deps ts) (Tr.deps us)
  | [], us => by show Tr.deps us = max 0 (Tr.deps us); omega
  | t :: r, us => by
    show max t.dep (Tr.deps (r ++ us)) = max (max t.dep (Tr.deps r)) (Tr.deps us)
    rw [deps_app r us]
    omega
end
section
variable {X : Cx}
/-- xs.extend(a tuple) -/
def rExtT (K : PySem.W.Frag) : V → List V → Hp → VK → Prop := fun x vs H Q => ∃ l b xs zs, x = .ref l ∧ vs = [.ref b] ∧ H l = some (.lst xs) ∧ H b = some (.tup zs) ∧ xs.length + zs.length ≤ sizeLine ∧ Q .non (upd H l (.lst (xs ++ zs)))
theorem mt_extT : MtM X "list.extend" (rExtT X.K) := by
  intro pins s σ H x vs v us Q I rx rv h
  obtain ⟨l, b, xs, zs, rfl, rfl, hH, hB, hz, q⟩ := h
  cases rx
  obtain ⟨u, rfl, ru⟩ := rv.one
  cases ru
  obtain ⟨z, its, n, r, hl, e⟩ := I.lstM hH
  obtain ⟨its2, r2, it2, z2⟩ := I.tuple (st_of hB)
  obtain ⟨⟨cls, dd, data, sl⟩, ho, hc, n2, hd⟩ := it2
  cases (show cls = Value.type "tuple" from hc)
  cases (show data = Data.seq its2.toArray n2 from hd)
  have l2 := r2.length
  have hsz : its.toArray.size + its2.toArray.size ≤ sizeLine := by rw [List.size_toArray, List.size_toArray]; omega
  have hlong : ¬ (!its.toArray.isEmpty && Builtin.List.listTooLong (its.toArray.size + its2.toArray.size)) = true := by
    rw [notLongL hsz, Bool.and_false]
    decide
  refine call_meets F.slot_list_extend ⟨_, e, rfl⟩ F.entry_list_extend (F.args_list_extend_2 _ _) (PySem.es_ext l its.toArray n b its2.toArray n2 dd sl hlong (by rw [List.size_toArray]; omega) (by omega)) ⟨e, ho, ?_⟩
  refine ⟨.non, _, I.lset (its' := its ++ its2) hH e (by simp) (r.append r2) ?_, rfl, q⟩
  rw [List.length_append]
  exact hz
end
end Es
namespace Es
open PySem PySem.Spec PyProof.Rows L2 Evl
/-- a list of leaves to draw from -/
def Menu (p : Addr) (H : Hp) (m : Addr) : Prop := m ≠ p ∧ ∃ ms : List V, H m = some (.lst ms) ∧ 1 ≤ ms.length ∧ ms.length ≤ 20 ∧ ∀ v ∈ ms, ∃ t, TrAt p H v t ∧ t.ok ∧ t.dep = 0
theorem Menu.xp {p m : Addr} {H H' : Hp} (h : Menu p H m) (e : Xp p H H') : Menu p H' m := by
  obtain ⟨n, ms, hm, h1, h2, h3⟩ := h
  refine ⟨n, ms, e _ _ n hm, h1, h2, fun v hv => ?_⟩
  obtain ⟨t, a, b, c⟩ := h3 v hv
  exact ⟨t, a.xp e, b, c⟩
theorem dep0_big {t : Tr} (h : t.dep = 0) : t.big = 15 := by
  cases t with
  | leaf k n => rfl
  | node k ps =>
    have : Tr.deps ps + 1 = 0 := h
    omega
def cost : Nat → Int
  | 0 => 1
  | n + 1 => 3 + 3 * cost n
def bg : Nat → Nat
  | 0 => 15
  | n + 1 => 12 + 3 * bg n
theorem cost_pos : ∀ n, 1 ≤ cost n
  | 0 => by decide
  | n + 1 => by
    have := cost_pos n
    show 1 ≤ 3 + 3 * cost n
    omega
theorem bg_ge : ∀ n, 15 ≤ bg n
  | 0 => by decide
  | n + 1 => by
    have := bg_ge n
    show 15 ≤ 12 + 3 * bg n
    omega
def spExpr (d : Nat) : Sp := fun vs H Q _ => ∃ (p m : Addr) (n : Nat) (c : Int), vs = [.ref p, .ref m, .int (n : Int)] ∧ n < d ∧ n ≤ 8 ∧ 0 ≤ c ∧ c + cost n ≤ 90000 ∧ Pot H p c ∧ Menu p H m ∧
  ∀ v t H', Xp p H H' → TrAt p H' v t → t.ok → t.dep ≤ n → t.big ≤ bg n → Pot H' p (c + cost n) → Q v H'
theorem kind2 (r : Int) (h0 : 2 ≤ r) (h1 : r < 4) : ∃ k ∈ nodeKinds, atI [V.str "repeat", V.str "optional"] (r - 2) = some (V.str k) := by
  have : r = 2 ∨ r = 3 := by omega
  rcases this with h | h <;> subst h
  · exact ⟨"repeat", by decide, rfl⟩
  · exact ⟨"optional", by decide, rfl⟩
theorem kind3 (r : Int) (h0 : 4 ≤ r) (h1 : r < 7) : ∃ k ∈ nodeKinds, atI [V.str "sequence", V.str "choice", V.str "sequence"] (r - 4) = some (V.str k) := by
  have : r = 4 ∨ r = 5 ∨ r = 6 := by omega
  rcases this with h | h | h <;> subst h
  · exact ⟨"sequence", by decide, rfl⟩
  · exact ⟨"choice", by decide, rfl⟩
  · exact ⟨"sequence", by decide, rfl⟩
/-- parts made so far: each of depth at most n -/
def Parts (p : Addr) (H : Hp) (n : Nat) (vs : List V) (ts : List Tr) : Prop := TrAll p H vs ts ∧ Tr.oks ts ∧ Tr.deps ts ≤ n ∧ Tr.bigs ts ≤ ts.length * (bg n + 1)
end Es
namespace HT
open PySem PySem.Spec PyProof.Rows
section
variable {prog : Program} {w : World} {A : Around} {E : Value → Shared → Prop} {s : Shared}
theorem es_applied_rev {sl : Addr} {vl vu vs : Value} {n : Nat} {Q : Int × Int × Nat → Shared → Prop} (hs : s.heap.IsSliceOf sl vl vu vs) (pl : IsPart vl none) (pu : IsPart vu none) (ps : IsPart vs (some (-1)))
    (h : Q ((n : Int) - 1, -1, n) s) : wpAny (model prog w) A (Builtin.Slice.sliceApplied (.ref sl) (pure (n : Int))) Q E s := by
  obtain ⟨os, hos, hcs, hds⟩ := id hs
  unfold Builtin.Slice.sliceApplied Builtin.Slice.sliceFields
  refine wpAny_bind (wpAny_bind (wpAny_field hos hds (x := vl) rfl (wpAny_bind (wpAny_field hos hds (x := vu) rfl (wpAny_bind (wpAny_field hos hds (x := vs) rfl (wpAny_pure ?_)))))))
  refine wpAny_bind (slicePart_ ps ?_)
  show wpAny _ _ (if ((-1 : Int) == 0) = true then _ else _) _ _ s
  rw [if_neg (by decide)]
  refine wpAny_bind (slicePart_ pl (wpAny_bind (slicePart_ pu (wpAny_bind (wpAny_pure ?_)))))
  show wpAny _ _ (match Builtin.Slice.sliceAdjust none none (-1) (n : Int) with | (lo, hi) => pure (lo, (-1 : Int), Builtin.Slice.slicePlaces lo hi (-1))) _ _ s
  show wpAny _ _ (pure ((n : Int) - 1, (-1 : Int), Builtin.Slice.slicePlaces ((n : Int) - 1) (-1) (-1))) _ _ s
  have e : Builtin.Slice.slicePlaces ((n : Int) - 1) (-1) (-1) = n := by
    unfold Builtin.Slice.slicePlaces
    rw [if_neg (by decide)]
    by_cases hn : n = 0
    · subst hn
      rfl
    · rw [if_pos (by omega)]
      show (((n : Int) - 1 - -1 - 1) / 1 + 1).toNat = n
      rw [Int.ediv_one]
      omega
  rw [e]
  exact wpAny_pure h
theorem es_fm {α β : Type} (f g : α → Option β) : ∀ l : List α, (∀ x ∈ l, f x = g x) → l.filterMap f = l.filterMap g
  | [], _ => rfl
  | x :: r, h => by
    rw [List.filterMap_cons, List.filterMap_cons, h x (List.mem_cons_self ..), es_fm f g r fun y hy => h y (List.mem_cons_of_mem _ hy)]
theorem es_pick_rev (xs : Array Value) : ((List.range xs.size).filterMap fun (m : Nat) => xs[((xs.size : Int) - 1 + (m : Int) * (-1)).toNat]?).toArray = xs.toList.reverse.toArray := by
  have h1 : ((List.range xs.size).filterMap fun (m : Nat) => xs[((xs.size : Int) - 1 + (m : Int) * (-1)).toNat]?) = (List.range xs.size).filterMap fun (m : Nat) => (xs.toList.reverse.toArray)[((0 : Nat) + (m : Int) * 1).toNat]? := by
    have e0 : ∀ m ∈ List.range xs.size, xs[((xs.size : Int) - 1 + (m : Int) * (-1)).toNat]? = (xs.toList.reverse.toArray)[((0 : Nat) + (m : Int) * 1).toNat]? := by
      intro m hm
      have hm' : m < xs.size := List.mem_range.mp hm
      rw [show ((xs.size : Int) - 1 + (m : Int) * (-1)).toNat = xs.size - 1 - m by omega, show (((0 : Nat) : Int) + (m : Int) * 1).toNat = m by omega]
      have e1 : (xs.toList.reverse.toArray)[m]? = xs.toList.reverse[m]? := List.getElem?_toArray ..
      rw [e1, List.getElem?_reverse (by rw [Array.length_toList]; exact hm'), Array.length_toList, Array.getElem?_toList]
    exact es_fm _ _ _ e0
  rw [h1]
  have := pick_gen xs.toList.reverse.toArray 0 xs.size
  rw [this]
  rw [List.drop_zero, List.take_of_length_le (by rw [List.length_reverse, Array.length_toList]; exact Nat.le_refl _)]
theorem es_tuple_rev {t sl : Addr} {items : Array Value} {vl vu vs : Value} {Q : Value → Shared → Prop} (ht : IsTup s.heap t items) (hs : s.heap.IsSliceOf sl vl vu vs) (pl : IsPart vl none) (pu : IsPart vu none) (ps : IsPart vs (some (-1)))
    (h : Q (.ref s.heap.objs.size) { s with heap := s.heap.push { cls := .type "tuple", data := .seq items.toList.reverse.toArray } })
    (hsz : items.size ≤ sizeLine) : wpAny (model prog w) A (getItem (.ref t) (.ref sl)) Q E s := by
  have htake : sizeOk (.seq items.toList.reverse.toArray) := by
    show items.toList.reverse.toArray.size ≤ sizeLine
    rw [List.size_toArray, List.length_reverse, Array.length_toList]
    exact hsz
  obtain ⟨os, hos, hcs, hds⟩ := id hs
  have hTs : s.TypeIs (.ref sl) "slice" := ⟨os, hos, hcs⟩
  unfold getItem
  try with_reducible refine wpAny_holding ?_
  first | refine wpAny_bind (wpAny_pure ?_) | skip
  refine wpAny_bind (wpAny_sequenceKey ht.typeIs (by decide) ?_)
  refine wpAny_bind (wpAny_callSpecial?_slot (name := Str.ofString "__getitem__") ht.typeIs PyProof.Rows.slot_tuple_getitem
    (wpAny_call_entry PyProof.Rows.slot_tuple_getitem ht.typeIs entry_tuple_getitem ?_ (args_tuple_getitem _ _)))
  show wpAny _ _ (Builtin.Tuple.tupleItemsOf (.ref t) >>= _) _ _ s
  refine wpAny_bind (tupleItemsOf_ ht ?_)
  refine wpAny_bind (wpAny_typeOf hTs ?_)
  rw [if_pos (by decide)]
  refine wpAny_bind (es_applied_rev hs pl pu ps ?_)
  have hno : ¬ (((((items.size : Int) - 1) == 0) && ((-1 : Int) == 1) && (items.size == items.size)) = true) := by
    rw [show ((-1 : Int) == 1) = false from rfl, Bool.and_false, Bool.false_and]
    exact Bool.false_ne_true
  show wpAny _ _ (if (((((items.size : Int) - 1) == 0) && ((-1 : Int) == 1) && (items.size == items.size)) = true) then _ else _) _ _ s
  rw [if_neg hno, es_pick_rev]
  first
    | exact wpAny_bind (m := Builtin.Tuple.tupleExact _) (wpAny_newObj_type (wpAny_pure ⟨_, rfl, wpAny_pure h⟩) htake)
    | exact wpAny_bind (m := Builtin.Tuple.tupleExact _) (wpAny_newObj_type (wpAny_bind (wpAny_pure (wpAny_pure ⟨_, rfl, wpAny_pure h⟩))) htake)
    | exact wpAny_bind (wpAny_bind (m := Builtin.Tuple.tupleExact _) (wpAny_newObj_type (wpAny_pure (wpAny_pure ⟨_, rfl, wpAny_pure h⟩)) htake))
    | exact wpAny_bind (wpAny_bind (m := Builtin.Tuple.tupleExact _) (wpAny_newObj_type (wpAny_pure ⟨_, rfl, wpAny_pure h⟩) htake))
end
end HT
namespace Es
open PySem PySem.Spec PyProof.Rows L2 Evl
section
variable {X : Cx}
def tRevT (K : PySem.W.Frag) (te : TE) : TE := fun σ H Q => te σ H fun x H1 => ∃ a xs, x = .ref a ∧ SqT K H1 a xs ∧ ∀ p, H1 p = none → Q (.ref p) (upd H1 p (.tup xs.reverse))
theorem pe_revT {e : Expr} {te : TE} {k : Nat} {p1 p2 p3 pos : Pos} (he : PE X e te) : PE X (.Subscript e (.Slice none none (some (.UnaryOp .USub (.Constant (.int 1) k p1) p2)) p3) pos) (tRevT X.K te) := by
  refine ⟨fun pins s σ H Q I h => ?_⟩
  refine Subscript_ (thn (he.run pins s σ H _ I h) fun v s1 ⟨x, H1, I1, r1, q1⟩ => ?_)
  obtain ⟨a, xs, ex, hx, q⟩ := q1
  subst ex
  cases r1
  have hst : PO X (some (.UnaryOp .USub (.Constant (.int 1) k p1) p2)) (tPart (tUn (rU fun i => .int (-i)) (tC (.int 1)))) := po_some (pe_un un_neg pe_int)
  refine wpAny_Slice (thn (po_none.run pins s1 σ H1 (fun o H2 => o = none ∧ H2 = H1) I1 ⟨rfl, rfl⟩) fun vl s2 ⟨l, H2, I2, pl, el, e2⟩ => ?_)
  subst el e2
  refine thn (po_none.run pins s2 σ H2 (fun o H3 => o = none ∧ H3 = H2) I2 ⟨rfl, rfl⟩) fun vu s3 ⟨u, H3, I3, pu, eu, e3⟩ => ?_
  subst eu e3
  refine thn (hst.run pins s3 σ H3 (fun o H4 => o = some (-1) ∧ H4 = H3) I3 ⟨1, rfl, -1, rfl, rfl, rfl⟩) fun vs s4 ⟨o, H4, I4, ps, eo, e4⟩ => ?_
  subst eo e4
  have I5 : Inv X pins σ H4 { s4 with heap := s4.heap.push { cls := .type "slice", data := .fields #[vl, vu, vs] } } := I4.kept (t' := s4.toks) fun b ob q => Heap.get?_push_of_some _ q
  obtain ⟨its, r, ht, hz⟩ := I5.tuple hx
  have hlen := r.length
  show wpAny (model X.prog X.w) X.A (subscriptTail e (.Slice none none (some (.UnaryOp .USub (.Constant (.int 1) k p1) p2)) p3) (.ref a) (.ref s4.heap.objs.size)) (EP X pins σ Q) X.xe { s4 with heap := s4.heap.push { cls := .type "slice", data := .fields #[vl, vu, vs] } }
  refine tail_any (ops := [.ref a, .ref s4.heap.objs.size]) ht.typeIs (PyProof.Rows.slot_tuple_getitem.lookup) ?_ (by with_unfolding_all rfl)
  refine HT.es_tuple_rev ht (Heap.IsSliceOf.new _ vl vu vs) pl pu ps ?_ (by rw [List.size_toArray]; omega)
  refine ⟨.ref _, _, I5.laid (t' := s4.toks) (o := .tup xs.reverse) (fun b ob q => Heap.get?_push_of_some _ q) (Nat.le_refl _) ?_, rfl, q _ (I5.hok.fresh (Nat.le_refl _))⟩
  exact ⟨by rw [List.length_reverse]; exact hz, _, r.reverse, ⟨_, Heap.get?_push_size _ rfl, rfl, _, rfl⟩⟩
/-- z * 8 -/
def rep8 (z : Str) : Str := ⟨(List.replicate 8 z.cps).foldl (· ++ ·) #[]⟩
theorem rep8_len (z : Str) : (rep8 z).length = 8 * z.length := by
  show (#[] ++ z.cps ++ z.cps ++ z.cps ++ z.cps ++ z.cps ++ z.cps ++ z.cps ++ z.cps).size = 8 * z.cps.size
  rw [Array.size_append, Array.size_append, Array.size_append, Array.size_append, Array.size_append, Array.size_append, Array.size_append, Array.size_append]
  show 0 + z.cps.size + z.cps.size + z.cps.size + z.cps.size + z.cps.size + z.cps.size + z.cps.size + z.cps.size = _
  omega
def rMul8 : R2 := fun x y H Q => ∃ z : Str, x = .str z ∧ y = .int 8 ∧ 1 ≤ z.length ∧ z.length ≤ 1000 ∧ Q (.str (rep8 z)) H
theorem op_mul8 : OpR X (binaryOp .Mult) rMul8 := by
  intro pins s σ H x y v u Q I rx ry h
  obtain ⟨z, rfl, rfl, h1, h2, q⟩ := h
  obtain ⟨t, rfl⟩ := rx
  obtain ⟨t', rfl⟩ := ry
  have e : ((8 : Int) == 1 || z.length == 0) = false := by
    rw [show ((8 : Int) == 1) = false from rfl, Bool.false_or]
    exact beq_eq_false_iff_ne.mpr (by omega)
  have ht : Builtin.Str.tooLong (z.length * (8 : Int).toNat) = false := by
    refine decide_eq_false fun hh => ?_
    have : z.length * (8 : Int).toNat ≤ sizeLine := sz_of (by show z.length * 8 ≤ 100000; omega)
    omega
  refine P.mul_str (by decide) (fun _ _ => ?_) (fun _ _ => ht) ?_
  · show ¬ ((z.length : Int) > (2 ^ 63 - 1) / 8)
    omega
  · rw [if_neg (by decide), e]
    exact ⟨sz_of (by show (rep8 z).length ≤ 100000; rw [rep8_len z]; omega), .str (rep8 z), H, I.tok _, ⟨_, rfl⟩, q⟩
end
theorem all_app (es : List PyData) : ∀ ds : List PyData, PyData.showableAll (ds ++ es) = (PyData.showableAll ds && PyData.showableAll es) ∧ PyData.leavesShortAll 30 (ds ++ es) = (PyData.leavesShortAll 30 ds && PyData.leavesShortAll 30 es) ∧
      PyData.bulkAll (ds ++ es) = PyData.bulkAll ds + PyData.bulkAll es ∧ PyData.depthAll (ds ++ es) = max (PyData.depthAll ds) (PyData.depthAll es)
  | [] => by
    refine ⟨rfl, rfl, ?_, ?_⟩
    · show PyData.bulkAll es = 0 + PyData.bulkAll es
      omega
    · show PyData.depthAll es = max 0 (PyData.depthAll es)
      omega
  | x :: r => by
    obtain ⟨i1, i2, i3, i4⟩ := all_app es r
    refine ⟨?_, ?_, ?_, ?_⟩
    · show (x.showable && PyData.showableAll (r ++ es)) = (x.showable && PyData.showableAll r && PyData.showableAll es)
      rw [i1, Bool.and_assoc]
    · show (x.leavesShort 30 && PyData.leavesShortAll 30 (r ++ es)) = (x.leavesShort 30 && PyData.leavesShortAll 30 r && PyData.leavesShortAll 30 es)
      rw [i2, Bool.and_assoc]
    · show x.bulk + 1 + PyData.bulkAll (r ++ es) = x.bulk + 1 + PyData.bulkAll r + PyData.bulkAll es
      omega
    · show max x.depth (PyData.depthAll (r ++ es)) = max (max x.depth (PyData.depthAll r)) (PyData.depthAll es)
      omega
theorem all_rev : ∀ ds : List PyData, PyData.showableAll ds.reverse = PyData.showableAll ds ∧ PyData.leavesShortAll 30 ds.reverse = PyData.leavesShortAll 30 ds ∧ PyData.bulkAll ds.reverse = PyData.bulkAll ds ∧ PyData.depthAll ds.reverse = PyData.depthAll ds
  | [] => ⟨rfl, rfl, rfl, rfl⟩
  | x :: r => by
    obtain ⟨i1, i2, i3, i4⟩ := all_rev r
    obtain ⟨a1, a2, a3, a4⟩ := all_app [x] r.reverse
    rw [List.reverse_cons]
    refine ⟨?_, ?_, ?_, ?_⟩
    · rw [a1, i1]
      show (PyData.showableAll r && (x.showable && true)) = (x.showable && PyData.showableAll r)
      rw [Bool.and_true, Bool.and_comm]
    · rw [a2, i2]
      show (PyData.leavesShortAll 30 r && (x.leavesShort 30 && true)) = (x.leavesShort 30 && PyData.leavesShortAll 30 r)
      rw [Bool.and_true, Bool.and_comm]
    · rw [a3, i3]
      show PyData.bulkAll r + (x.bulk + 1 + 0) = x.bulk + 1 + PyData.bulkAll r
      omega
    · rw [a4, i4]
      show max (PyData.depthAll r) (max x.depth 0) = max x.depth (PyData.depthAll r)
      omega
theorem Fits.rev {n : Nat} {ds : List PyData} (h : Fits n ds) : Fits n ds.reverse := by
  obtain ⟨i1, i2, i3, i4⟩ := all_rev ds
  unfold Fits
  rw [i1, i2, i3, i4]
  exact h
theorem DdAll.rev {p : Option Sx} {H : Hp} : ∀ {vs : List V} {ds : List PyData}, DdAll p H vs ds → DdAll p H vs.reverse ds.reverse
  | _, _, .nil => .nil
  | _, _, .cons h r => by
    rw [List.reverse_cons, List.reverse_cons]
    exact (DdAll.rev r).append (.cons h .nil)
section
variable {S : Sx} {K : PySem.W.Frag} {σ : L2.St} {H : Hp} {te tf : TE} {ta : TA} {k j : Int} {D E : PyData → Prop} {L M : List PyData → Prop}
/-- t[lo:hi] of a tuple at a name, any bounds -/
theorem evp_cutG {i : Nat} {a : Addr} {ds : List PyData} {n : Nat} {tl th : TO} {lo hi : Option Int} (h : σ[i]? = some (some (.ref a))) (hd : Dd (some S) H (.ref a) (.tuple ds)) (f : Fits n ds)
    (hlo : ∀ H1 (Q : Option Int → Hp → Prop), Q lo H1 → tl σ H1 Q) (hhi : ∀ H1 (Q : Option Int → Hp → Prop), Q hi H1 → th σ H1 Q) : EvP S 0 (tSl (rSlA K) (tVar i) tl th) σ H (Tu n) := by
  intro H1 c x P c0 c1 Q q
  have hd1 := hd.xp x
  cases hd1 with
  | @tup _ xs _ na ha hxs =>
    refine ⟨.ref a, h, hlo H1 _ (hhi H1 _ ⟨a, xs, rfl, st_of ha, fun _ => ?_, fun _ t nt => ?_⟩)⟩
    · exact q _ _ H1 (Xp.refl _ _) (P.more (by omega)) (.tup na ha hxs) ⟨ds, rfl, f⟩
    · have e := Ex.new (o := .tup (cutV xs lo hi)) nt
      have hc : DdAll (some S) H1 (cutV xs lo hi) ((ds.drop (HT.sIx xs.length 0 lo)).take (HT.sIx xs.length xs.length hi - HT.sIx xs.length 0 lo)) := (hxs.drop _).take _
      exact q _ _ _ (Xp.ex e) ((P.up e).more (by omega)) (.tup (P.sn nt) upd_same (hc.up e)) ⟨_, rfl, (f.sub.1 _).sub.2 _⟩
theorem evp_rev {i : Nat} {a : Addr} {ds : List PyData} {n : Nat} (h : σ[i]? = some (some (.ref a))) (hd : Dd (some S) H (.ref a) (.tuple ds)) (f : Fits n ds) : EvP S 0 (tRevT K (tVar i)) σ H (Tu n) := by
  intro H1 c x P c0 c1 Q q
  have hd1 := hd.xp x
  cases hd1 with
  | @tup _ xs _ na ha hxs =>
    refine ⟨.ref a, h, a, xs, rfl, st_of ha, fun t nt => ?_⟩
    have e := Ex.new (o := .tup xs.reverse) nt
    exact q _ _ _ (Xp.ex e) ((P.up e).more (by omega)) (.tup (P.sn nt) upd_same (hxs.rev.up e)) ⟨_, rfl, f.rev⟩
theorem evl_two {A n : Nat} (h : EvPL S k te σ H (fun ds => AllFit n ds ∧ ds.length = A)) (hk : 0 ≤ k) (hA : A ≤ 1000) : EvPL S k (tOp rRep te (tC (.int 2))) σ H (fun ds => AllFit n ds ∧ ds.length = A + A) := by
  intro H1 c x P c0 c1 Q q
  refine h H1 c x P c0 c1 _ fun l vs ds H2 x2 P2 nl hl hds hD => ?_
  have l1 := hds.length
  have d1 := hD.2
  refine ⟨l, 2, vs, rfl, rfl, hl, by decide, by decide, sz_of (by show vs.length * 2 ≤ 100000; omega), fun a na => ?_⟩
  have e := Ex.new (o := .lst (List.replicate 2 vs).flatten) na
  have ev : (List.replicate 2 vs).flatten = vs ++ vs := by
    show vs ++ (vs ++ []) = vs ++ vs
    rw [List.append_nil]
  refine q a _ (ds ++ ds) _ (x2.trans (Xp.ex e)) (P2.up e) (P2.ne na) (by show upd H2 a (.lst (List.replicate 2 vs).flatten) a = some (.lst (vs ++ vs)); rw [upd_same, ev]) ((hds.append hds).up e) ⟨hD.1.app hD.1, by rw [List.length_append, d1]⟩
theorem evl_cut {i : Nat} {l : Addr} {vs : List V} {ds : List PyData} {n A : Nat} {u : Int} (h : σ[i]? = some (some (.ref l))) (nl : l ≠ S.p) (hl : H l = some (.lst vs)) (hd : DdAll (some S) H vs ds) (hL : AllFit n ds) (hu : 0 ≤ u) (hA : A = min u.toNat ds.length) :
    EvPL S 0 (tSl (rSlL K) (tVar i) tNoPart (tPart (tC (.int u)))) σ H (fun ds => AllFit n ds ∧ ds.length = A) := by
  intro H1 c x P c0 c1 Q q
  have hl1 := x _ _ nl hl
  have l1 := hd.length
  refine ⟨.ref l, h, u, rfl, l, vs, rfl, sq_of hl1, fun t nt => ?_⟩
  have e := Ex.new (o := .lst (cutV vs none (some u))) nt
  have hc : DdAll (some S) H1 (cutV vs none (some u)) (ds.take (min u.toNat ds.length)) := by
    unfold cutV
    rw [HT.sIx_none, List.drop_zero, Nat.sub_zero, show (some u) = some ((u.toNat : Nat) : Int) by rw [Int.toNat_of_nonneg hu], HT.sIx_nat, l1]
    exact (hd.xp x).take _
  refine q t _ _ _ (Xp.ex e) ((P.up e).more (by omega)) (P.ne nt) upd_same (hc.up e) ⟨fun d hd => hL d (List.mem_of_mem_take hd), ?_⟩
  rw [List.length_take, hA]
  omega
end
theorem PotS.tn {S : Sx} {H : Hp} {c : Int} (P : PotS S H c) {a : Addr} {xs : List V} (n : a ≠ S.p) (h : H a = some (.tup xs)) : ¬ out (some S) a := by
  rintro (z | z)
  · exact n z
  · obtain ⟨ys, e⟩ := P.2 a z
    rw [h] at e
    cases e
mutual
theorem TrAt.dd {S : Sx} {H : Hp} {c : Int} (P : PotS S H c) : ∀ {v : V} {t : Tr}, TrAt S.p H v t → Dd (some S) H v t.toD
  | _, _, .leaf n h => .tup (P.tn n h) h (.cons (.str _) (.cons (.str _) .nil))
  | _, _, .node n h r => .tup (P.tn n h) h (.cons (.str _) (TrAll.dd P r))
theorem TrAll.dd {S : Sx} {H : Hp} {c : Int} (P : PotS S H c) : ∀ {vs : List V} {ts : List Tr}, TrAll S.p H vs ts → DdAll (some S) H vs (Tr.toDs ts)
  | _, _, .nil => .nil
  | _, _, .cons h r => .cons (TrAt.dd P h) (TrAll.dd P r)
end
end Es
namespace K02
open PySem PySem.Spec PyProof.Rows L2 Evl Es
def abc : Str := "abcdefghijklmnopqrstuvwxyz"
/-- a token -/
def isTok : V → Bool
  | .str z => (decide (1 ≤ (z.length : Int)) && decide ((z.length : Int) ≤ 8)) && (z.cps.toList.map fun c => decide (c ∈ abc.cps.toList)).all id
  | _ => false
def tokD : PyData → Bool
  | .str z => isTok (.str z)
  | _ => false
/-- the datum is one of these texts -/
def inD (d : PyData) (zs : List Str) : Bool := zs.any fun z => isT z d
/-- the parts of a kind -/
def fitD (h : PyData) (n : Nat) : Bool := if inD h ["repeat", "optional"] then decide (n = 1) else inD h ["sequence", "choice"] && (decide (2 ≤ n) && decide (n ≤ 6))
/-- the loop over the parts -/
def loop (f : PyData → Int) : List PyData → Int → Int
  | [], t => t
  | q :: qs, t => if f q = 0 then 0 else if 16 < t + f q then t + f q else loop f qs (t + f q)
def cnt : Nat → PyData → Int
  | 0, _ => 0
  | L + 1, d => match d with
    | .tuple (h :: x :: r) => if inD h ["token", "block"] then (if decide (r.length = 0) && tokD x then 1 else 0) else if fitD h (r.length + 1) then loop (cnt L) (x :: r) 0 else 0
    | _ => 0
def lc : Nat → PyData → Int
  | 0, _ => -1000
  | L + 1, d => match d with
    | .tuple (h :: x :: r) => if inD h ["token", "block"] then (if decide (r.length = 0) && tokD x then 1 else -1000) else if fitD h (r.length + 1) then ((x :: r).map (lc L)).sum else -1000
    | _ => -1000
def Rel (c l : Int) (b : Nat) : Prop := (1 ≤ l ∧ 2 * l ≤ b ∧ (l ≤ 16 → c = l) ∧ (16 < l → 16 < c)) ∨ (2 * l ≤ b - 2000 ∧ (c = 0 ∨ 16 < c))
theorem loop_rel (f g : PyData → Int) : ∀ (qs : List PyData) (t : Int), (∀ q ∈ qs, Rel (f q) (g q) q.bulk) → 0 ≤ t → t ≤ 16 →
    ((qs.length ≤ (qs.map g).sum ∧ 2 * (qs.map g).sum ≤ PyData.bulkAll qs ∧ (t + (qs.map g).sum ≤ 16 → loop f qs t = t + (qs.map g).sum) ∧ (16 < t + (qs.map g).sum → 16 < loop f qs t)) ∨
      (2 * (qs.map g).sum ≤ PyData.bulkAll qs - 2000 ∧ (loop f qs t = 0 ∨ 16 < loop f qs t)))
  | [], t, _, h0, h1 => by
    left
    refine ⟨Int.le_refl _, Int.le_refl _, fun _ => ?_, fun h => ?_⟩
    · show t = t + 0
      omega
    · have : (16 : Int) < t + 0 := h
      omega
  | q :: qs, t, h, h0, h1 => by
    have hq := h q (List.mem_cons_self ..)
    have hr := fun t => loop_rel f g qs t (fun y hy => h y (List.mem_cons_of_mem _ hy))
    have es : ((q :: qs).map g).sum = g q + (qs.map g).sum := by rw [List.map_cons, List.sum_cons]
    have eb : PyData.bulkAll (q :: qs) = q.bulk + 1 + PyData.bulkAll qs := rfl
    have el : (q :: qs).length = qs.length + 1 := rfl
    rw [es, eb, el]
    show (_ ∧ _ ∧ (_ → (if f q = 0 then 0 else if 16 < t + f q then t + f q else loop f qs (t + f q)) = _) ∧ (_ → 16 < (if f q = 0 then 0 else if 16 < t + f q then t + f q else loop f qs (t + f q)))) ∨
      (_ ∧ ((if f q = 0 then 0 else if 16 < t + f q then t + f q else loop f qs (t + f q)) = 0 ∨ 16 < (if f q = 0 then 0 else if 16 < t + f q then t + f q else loop f qs (t + f q))))
    have hsum : 2 * (qs.map g).sum ≤ PyData.bulkAll qs := by
      rcases hr 0 (by decide) (by decide) with z | z
      · exact z.2.1
      · have := z.1
        omega
    rcases hq with ⟨a1, a2, a3, a4⟩ | ⟨a1, a2⟩
    · have fpos : 1 ≤ f q := by
        by_cases hl : g q ≤ 16
        · rw [a3 hl]
          exact a1
        · have := a4 (by omega)
          omega
      rw [if_neg (by omega)]
      by_cases ht : 16 < t + f q
      · rw [if_pos ht]
        rcases hr 0 (by decide) (by decide) with ⟨z1, z2, _⟩ | ⟨z1, _⟩
        · left
          refine ⟨by omega, by omega, fun hle => ?_, fun _ => ht⟩
          have := a3 (by omega)
          omega
        · right
          exact ⟨by omega, .inr ht⟩
      · rw [if_neg ht]
        have hg16 : g q ≤ 16 := by
          by_cases hl : g q ≤ 16
          · exact hl
          · have := a4 (by omega)
            omega
        have hfg := a3 hg16
        rcases hr (t + f q) (by omega) (by omega) with ⟨z1, z2, z3, z4⟩ | ⟨z1, z2⟩
        · left
          refine ⟨by omega, by omega, fun hle => ?_, fun hlt => z4 (by omega)⟩
          rw [z3 (by omega)]
          omega
        · right
          exact ⟨by omega, z2⟩
    · right
      refine ⟨by omega, ?_⟩
      rcases a2 with a2 | a2
      · rw [if_pos a2]
        exact .inl rfl
      · rw [if_neg (by omega), if_pos (by omega)]
        exact .inr (by omega)
theorem cnt_rel : ∀ (L : Nat) (d : PyData), Rel (cnt L d) (lc L d) d.bulk
  | 0, d => .inr ⟨by show 2 * (-1000 : Int) ≤ d.bulk - 2000; omega, .inl rfl⟩
  | L + 1, d => by
    have bad : ∀ b : Nat, Rel 0 (-1000) b := fun b => .inr ⟨by omega, .inl rfl⟩
    match d with
    | .none => exact bad _
    | .bool _ => exact bad _
    | .int _ => exact bad _
    | .str _ => exact bad _
    | .list _ => exact bad _
    | .dict _ => exact bad _
    | .tuple [] => exact bad _
    | .tuple [_] => exact bad _
    | .tuple (h :: x :: r) =>
      show Rel (if inD h ["token", "block"] then (if decide (r.length = 0) && tokD x then 1 else 0) else if fitD h (r.length + 1) then loop (cnt L) (x :: r) 0 else 0)
        (if inD h ["token", "block"] then (if decide (r.length = 0) && tokD x then 1 else -1000) else if fitD h (r.length + 1) then ((x :: r).map (lc L)).sum else -1000) (h.bulk + 1 + (x.bulk + 1 + PyData.bulkAll r))
      split
      · split
        · exact .inl ⟨by decide, by omega, fun _ => rfl, fun z => absurd z (by decide)⟩
        · exact bad _
      · split
        · have := loop_rel (cnt L) (lc L) (x :: r) 0 (fun q _ => cnt_rel L q) (by decide) (by decide)
          have eb : PyData.bulkAll (x :: r) = x.bulk + 1 + PyData.bulkAll r := rfl
          have el : (x :: r).length = r.length + 1 := rfl
          rw [eb, el] at this
          rcases this with ⟨z1, z2, z3, z4⟩ | ⟨z1, z2⟩
          · exact .inl ⟨by omega, by omega, fun hl => by rw [z3 (by omega)]; omega, fun hl => z4 (by omega)⟩
          · exact .inr ⟨by omega, z2⟩
        · exact bad _
theorem same {d : PyData} (h : d.bulk ≤ 1900) : (decide (1 ≤ cnt 8 d) && decide (cnt 8 d ≤ 16)) = (decide (0 < lc 8 d) && decide (lc 8 d < 17)) := by
  rcases cnt_rel 8 d with ⟨z1, z2, z3, z4⟩ | ⟨z1, z2⟩
  · by_cases hl : lc 8 d ≤ 16
    · rw [z3 hl, decide_eq_true (show 1 ≤ lc 8 d by omega), decide_eq_true (show lc 8 d ≤ 16 by omega), decide_eq_true (show 0 < lc 8 d by omega), decide_eq_true (show lc 8 d < 17 by omega)]
    · have := z4 (by omega)
      rw [decide_eq_false (show ¬ cnt 8 d ≤ 16 by omega), decide_eq_false (show ¬ lc 8 d < 17 by omega), Bool.and_false, Bool.and_false]
  · rw [decide_eq_false (show ¬ 0 < lc 8 d by omega), Bool.false_and]
    rcases z2 with z2 | z2
    · rw [decide_eq_false (show ¬ 1 ≤ cnt 8 d by omega), Bool.false_and]
    · rw [decide_eq_false (show ¬ cnt 8 d ≤ 16 by omega), Bool.and_false]
theorem loop_nn (f : PyData → Int) (hf : ∀ q, 0 ≤ f q) : ∀ (qs : List PyData) (t : Int), 0 ≤ t → 0 ≤ loop f qs t
  | [], t, h => h
  | q :: qs, t, h => by
    have := hf q
    show 0 ≤ if f q = 0 then 0 else if 16 < t + f q then t + f q else loop f qs (t + f q)
    split
    · exact Int.le_refl _
    · split
      · omega
      · exact loop_nn f hf qs _ (by omega)
theorem cnt_nn : ∀ (L : Nat) (d : PyData), 0 ≤ cnt L d
  | 0, d => Int.le_refl _
  | L + 1, d => by
    match d with
    | .none => exact Int.le_refl _
    | .bool _ => exact Int.le_refl _
    | .int _ => exact Int.le_refl _
    | .str _ => exact Int.le_refl _
    | .list _ => exact Int.le_refl _
    | .dict _ => exact Int.le_refl _
    | .tuple [] => exact Int.le_refl _
    | .tuple [_] => exact Int.le_refl _
    | .tuple (h :: x :: r) =>
      show 0 ≤ if inD h ["token", "block"] then (if decide (r.length = 0) && tokD x then 1 else 0) else if fitD h (r.length + 1) then loop (cnt L) (x :: r) 0 else 0
      split
      · split <;> decide
      · split
        · exact loop_nn _ (fun q => cnt_nn L q) _ _ (by decide)
        · exact Int.le_refl _
end K02
namespace K02
open PySem PySem.Spec PyProof.Rows L2 Evl Es
section
variable {X : Cx}
/-- any datum in a tuple of texts -/
def rInT (K : PySem.W.Frag) : R2 := fun x y H Q => ∃ (p : Option Sx) (d : PyData) (b : Addr) (zs : List Str), y = .ref b ∧ SqT K H b (zs.map V.str) ∧ Dd p H x d ∧ Q (.bl (inD d zs)) H
def eT (d : PyData) : Value → Bool
  | .str z _ => isT z d
  | _ => false
theorem any_eT (d : PyData) : ∀ (zs : List Str) (its : List Value), Vals (zs.map V.str) its → (∀ y ∈ its, ∃ z t, y = Value.str z t) ∧ its.any (eT d) = inD d zs
  | [], its, r => by
    cases r
    exact ⟨fun y h => (by cases h), rfl⟩
  | z :: zs, its, r => by
    cases r with
    | cons r1 r2 =>
      obtain ⟨t, rfl⟩ := r1
      obtain ⟨a, b⟩ := any_eT d zs _ r2
      refine ⟨fun y hy => ?_, ?_⟩
      · rcases List.mem_cons.mp hy with e | e
        · exact ⟨z, t, e⟩
        · exact a y e
      · rw [List.any_cons, b]
        rfl
theorem op_inT (hu : X.A.units + 64 < cLine) : OpR X (compareOp .In) (rInT X.K) := by
  intro pins s σ H x y v u Q I rx ry h
  obtain ⟨p, d, b, zs, rfl, hb, hd, q⟩ := h
  cases ry
  obtain ⟨its, r, t, _⟩ := I.tuple hb
  obtain ⟨h1, h2⟩ := any_eT d zs its r
  refine SeqAt.in_tupleAt (eT d) t (fun y hy => ?_) ⟨.bl (inD d zs), H, I, ?_, q⟩
  · obtain ⟨z, tk, rfl⟩ := h1 y (by simpa using hy)
    exact eqAt_Sd I hd rx (by show X.A.units + 1 < cLine; omega)
  · show Value.bool _ = Value.bool _
    rw [← Array.any_toList, h2]
/-- a tuple and the empty one -/
def rEqT0 (K : PySem.W.Frag) : R2 := fun x y H Q => ∃ a b xs, x = .ref a ∧ y = .ref b ∧ SqT K H a xs ∧ SqT K H b [] ∧ Q (.bl (decide (xs = []))) H
theorem rc_e0 {A : Around} {s : Shared} {a b : Addr} {its : Array Value} (hu : A.units < cLine) (t1 : s.heap.IsTuple a its) (t2 : s.heap.IsTuple b #[]) : SeqAt.RcAt A s (.ref a) (.ref b) (its.size == 0) := by
  have R := SeqAt.RcAt.tuples (e := fun _ => true) t1 t2 hu (fun j _ h2 => absurd h2 (Nat.not_lt_zero _))
  have e : ((List.range (min its.size (#[] : Array Value).size)).all (fun _ => true) && its.size == (#[] : Array Value).size) = (its.size == 0) := by
    show ((List.range (min its.size 0)).all (fun _ => true) && its.size == 0) = (its.size == 0)
    rw [Nat.min_zero]
    rfl
  rw [e] at R
  exact R
theorem op_eqT0 (hu : X.A.units + 64 < cLine) : OpR X (compareOp .Eq) (rEqT0 X.K) := by
  intro pins s σ H x y v u Q I rx ry h
  obtain ⟨a, b, xs, rfl, rfl, ha, hb, q⟩ := h
  cases rx
  cases ry
  obtain ⟨its, r1, t1, _⟩ := I.tuple ha
  obtain ⟨jts, r2, t2, _⟩ := I.tuple hb
  cases vals_nil r2
  refine rc_e0 (by omega) t1 t2 X.prog X.w X.xe _ ⟨.bl (decide (xs = [])), H, I, ?_, q⟩
  show Value.bool _ = Value.bool _
  congr 1
  have l := r1.length
  rw [List.size_toArray]
  cases xs with
  | nil =>
    cases its with
    | nil => rfl
    | cons y ys => cases l
  | cons z zs =>
    cases its with
    | nil => cases l
    | cons y ys => rfl
end
def topS (i : Nat) : Stmt := PySem.Challenge.pw_errorspans_k02_expressions_of_any_value.main.body.getD i (.Pass ⟨0, 0, 0, 0⟩)
abbrev sTok : Stmt := topS 3
abbrev sIsE : Stmt := topS 9
abbrev sCnt : Stmt := topS 10
abbrev sFit : Stmt := topS 11
abbrev sPot : Stmt := topS 13
abbrev sTake : Stmt := topS 14
abbrev sPick : Stmt := topS 15
abbrev sExpr : Stmt := topS 16
abbrev sOdd : Stmt := topS 17
abbrev sBent : Stmt := topS 18
abbrev sLTok : Stmt := topS 19
abbrev sLCnt : Stmt := topS 20
abbrev sLIsE : Stmt := topS 21
abbrev sNest : Stmt := topS 22
abbrev sHand : Stmt := topS 23
abbrev sAsked : Stmt := topS 24
abbrev sRight : Stmt := topS 25
abbrev sLaw : Stmt := topS 26
theorem scIsE : FnScope ["value"] ["value"] (defScope sIsE) := ⟨rfl, rfl, rfl, by decide +kernel, rfl, by decide +kernel, by decide +kernel⟩
abbrev nCnt : List Str := ["value", "levels", "total", "part", "count"]
theorem scCnt : FnScope nCnt ["value", "levels"] (defScope sCnt) := ⟨rfl, rfl, rfl, by decide +kernel, rfl, by decide +kernel, by decide +kernel⟩
theorem scFit : FnScope ["value"] ["value"] (defScope sFit) := ⟨rfl, rfl, rfl, by decide +kernel, rfl, by decide +kernel, by decide +kernel⟩
end K02
namespace K02
open PySem PySem.Spec PyProof.Rows L2 Evl Es
theorem scTok : FnScope ["value", "letter"] ["value"] (defScope sTok) := ⟨rfl, rfl, rfl, by decide +kernel, rfl, by decide +kernel, by decide +kernel⟩
theorem tok_dd {p : Option Sx} {H : Hp} {v : V} {d : PyData} (h : Dd p H v d) : isTok v = tokD d := by
  cases h <;> rfl
theorem fit_len {n : Nat} {z : Str} (h : Fit n (.str z)) : z.length ≤ 8 * n := h.2.2.1
theorem rc_lenS2 {K : PySem.W.Frag} {H : Hp} {s : Str} (h : s.length ≤ 40000) : RC (rLen1 K) [.str s] H (.int (s.length : Int)) := fun H1 _ _ q => ⟨.str s, s.length, rfl, ⟨sz_of (by omega), rfl⟩, q H1 (Ex.refl _)⟩
theorem fit_fits {n : Nat} {ds : List PyData} (h : Fit n (.tuple ds)) : Fits n ds := by
  obtain ⟨a1, a2, a3, a4⟩ := h
  have a4' : PyData.depthAll ds + 1 ≤ n := a4
  exact ⟨a1, a2, a3, by omega⟩
theorem fits_get {n : Nat} : ∀ {ds : List PyData} {i : Nat} {d : PyData}, Fits n ds → ds[i]? = some d → Fit n d
  | x :: r, 0, _, h, e => by
    cases e
    obtain ⟨a1, a2, a3, a4⟩ := h
    have a1' : (x.showable && PyData.showableAll r) = true := a1
    have a2' : (x.leavesShort 30 && PyData.leavesShortAll 30 r) = true := a2
    rw [Bool.and_eq_true] at a1' a2'
    have a3' : x.bulk + 1 + PyData.bulkAll r ≤ 8 * n := a3
    have a4' : max x.depth (PyData.depthAll r) ≤ n := a4
    exact ⟨a1'.1, a2'.1, by omega, by omega⟩
  | x :: r, i + 1, _, h, e => fits_get (ds := r) (i := i) (h.sub.1 1) e
def spTok : Sp := fun vs H Q _ => ∃ (p : Option Sx) (v : V) (d : PyData), vs = [v] ∧ Dd p H v d ∧ Fit 190 d ∧ RetV (.bl (tokD d)) H Q
section
variable {P : Program} {w : World} {K : PySem.W.Frag} {mg : Str → Option Value} {base : Heap}
theorem ok_tok {f : Addr} {fd : FuncData} {k : Nat} {tL : Tok} {tM : Tok} (F : Fun K "is_token" "is_token" sTok f fd) (mi : mg "isinstance" = none) (ms : mg "str" = none) (ml : mg "len" = none) (ma : mg "all" = none)
    (mL : mg "LETTERS" = some (.str abc tL)) (mM : mg "MOST_LETTERS" = some (.int 8 tM)) : FnOk P w K mg base CX0 (k + 1) f fd ["value"] spTok := by
  refine F.ok scTok (fun vs H Q E h => ?_) (fun cdv A outer s H vs Q E hr h => ?_)
  · obtain ⟨p, v, d, rfl, _⟩ := h
    rfl
  · obtain ⟨p, v, d, rfl, hd, hf, q⟩ := h
    refine ⟨_, pss_cons (ps_if (pt_not (pt_val (pe_callB call_isi (by rfl) mi boot_isinstance (pa_cons (pv 0) (pa_cons (pe_bltn (v := .ty "str") (by rfl) ms PyProof.Rows.boot_str rfl) pa_nil))))) (pss_one (ps_ret pe_bl)) pss_nil)
      (pss_one (ps_ret (pe_and (pe_chain op_le op_le pe_int (pe_callB call_len (by rfl) ml PySem.boot_len (pa_cons (pv 0) pa_nil)) (pe_glob (v := .int 8) (by rfl) mM ⟨_, rfl⟩))
        (pe_one (pe_callB (cr_all rfl) (by rfl) ma boot_all (pa_cons
          (pe_lc (own := [("letter", 1)]) (g := gName 1) (tt := tYes) rfl scTok.nd (pi_str (pv 0)) (blkOk_by (N := ["value", "letter"]) (sc := defScope sTok) (own := [("letter", 1)]) (by decide +kernel)) (fun _ _ _ _ _ => pg_name (i := 1) scTok.nd rfl (Or.inl rfl)) (fun _ _ _ _ _ => pts_nil)
            (fun _ _ _ _ _ => pe_cmpR op_in_sign (pv 1) (pe_glob (v := .str abc) (by rfl) mL ⟨_, rfl⟩) (by rfl))) pa_nil)))))), ?_⟩
    refine q_when (et_not (et_test (ev_cb (ea_cons (ev_var rfl) (ea_cons ev_c ea_nil)) hd.isiS))) (fun hb H1 e1 => ?_) (fun hb H1 e1 => ?_)
    · refine s_ret ev_c fun H2 e2 => ?_
      have hi : tokD d = false := by
        cases d <;> first | rfl | cases hb
      have := q H2 (e1.trans e2)
      rw [hi] at this
      exact this
    · cases hd with
      | str z =>
        have hz := fit_len hf
        refine s_ret (ev_andV (ev_chain ev_c (ev_cb (ea_cons (ev_var rfl) ea_nil) (rc_lenS2 (by omega))) rv_I0 (fun _ => ev_c) (fun _ => rv_I0))
          (fun _ => ev_cbL (el_lcS (fun c => .bl (decide (c ∈ abc.cps.toList))) (ev_var rfl) (by show z.length ≤ 40000; omega) (fun _ => rfl) (fun c H2 _ _ => ev_op (ev_var rfl) ev_c rv_inSign))
            (fun p H2 hp _ => rc_all (bs := z.cps.toList.map fun c => decide (c ∈ abc.cps.toList)) (by rw [hp, List.map_map]; rfl)))) (fun H2 e2 => ?_)
        exact q H2 (e1.trans e2)
      | _ => cases hb
/-- has_fitting_parts, of a tuple that is not empty -/
def spFit : Sp := fun vs H Q _ => ∃ (p : Option Sx) (a : Addr) (xs : List V) (h : PyData) (ds : List PyData), vs = [.ref a] ∧ H a = some (.tup xs) ∧ DdAll p H xs (h :: ds) ∧ RetV (.bl (fitD h ds.length)) H Q
theorem ok_fit {f : Addr} {fd : FuncData} {k : Nat} {tk : Tok} (F : Fun K "has_fitting_parts" "has_fitting_parts" sFit f fd) (ml : mg "len" = none) (mP : mg "MOST_PARTS" = some (.int 6 tk)) : FnOk P w K mg base CX0 (k + 1) f fd ["value"] spFit := by
  refine F.ok scFit (fun vs H Q E h => ?_) (fun cdv A outer s H vs Q E hr h => ?_)
  · obtain ⟨p, a, xs, h, ds, rfl, _⟩ := h
    rfl
  · obtain ⟨p, a, xs, h, ds, rfl, ha, hd, q⟩ := h
    refine ⟨_, pss_cons (ps_if (pt_cmpR (op_inT hr.units) (pe_ix ix_tup (pv 0) pe_int (fun _ _ => rfl)) (pe_tup (pa_cons pe_str (pa_cons pe_str pa_nil))) (by rfl)) (pss_one (ps_ret (pe_cmpR op_eq (pe_callB call_len_seq (by rfl) ml PySem.boot_len (pa_cons (pv 0) pa_nil)) pe_int (nomark _)))) pss_nil)
      (pss_one (ps_ret (pe_and (pe_cmpR (op_inT hr.units) (pe_ix ix_tup (pv 0) pe_int (fun _ _ => rfl)) (pe_tup (pa_cons pe_str (pa_cons pe_str pa_nil))) (by rfl))
        (pe_one (pe_chain op_le op_le pe_int (pe_op op_sub (pe_callB call_len_seq (by rfl) ml PySem.boot_len (pa_cons (pv 0) pa_nil)) pe_int) (pe_glob (v := .int 6) (by rfl) mP ⟨_, rfl⟩)))))), ?_⟩
    have l := hd.length
    have l' : xs.length = ds.length + 1 := l
    obtain ⟨v, vs, rfl⟩ : ∃ v vs, xs = v :: vs := by
      cases xs with
      | nil => cases l
      | cons v vs => exact ⟨v, vs, rfl⟩
    have hv : Dd p H v h := by
      cases hd
      assumption
    have hin : ∀ (z1 z2 : Str) H1, Ex H H1 → Ev (tOp (rInT K) (tOp (rIxT K) (tVar 0) (tC (.int 0))) (tTup (tCons (tC (.str z1)) (tCons (tC (.str z2)) tNil)))) [some (.ref a)] H1 (.bl (inD h [z1, z2])) := by
      intro z1 z2 H1 e1
      refine ev_opU (x := v) (ev_op (ev_var rfl) ev_c (rv_ixT (st_of (e1 _ _ ha)) (atI_nat (j := 0) rfl))) (eu_tup (ea_cons ev_c (ea_cons ev_c ea_nil)) (by show 2 ≤ 100000; decide)) fun t H2 ht e2 H3 e3 Q q => ?_
      exact ⟨p, h, t, [z1, z2], rfl, st_of (e3 _ _ ht), hv.up ((e1.trans e2).trans e3), q H3 (Ex.refl _)⟩
    have len : ∀ {H1 : Hp}, Ex H H1 → Ev (tCB (rLenS K) (tCons (tVar 0) tNil)) [some (.ref a)] H1 (.int ((v :: vs).length : Int)) := fun e1 =>
      ev_cb (ea_cons (ev_var rfl) ea_nil) (fun H3 e3 Q q => ⟨a, v :: vs, rfl, .inr (st_of (e3 _ _ (e1 _ _ ha))), q H3 (Ex.refl _)⟩)
    refine q_when (et_test (hin "repeat" "optional" H (Ex.refl _))) (fun hb H1 e1 => ?_) (fun hb H1 e1 => ?_)
    · refine s_ret (ev_op (len e1) ev_c (rv_eq rfl)) fun H2 e2 => ?_
      have e : fitD h ds.length = decide (V.int (((v :: vs).length : Nat) : Int) = V.int 2) := by
        unfold fitD
        rw [hb]
        show decide (ds.length = 1) = _
        exact decide_eq_decide.mpr ⟨fun z => by rw [show ((v :: vs).length : Int) = 2 by omega], fun z => by have := V.int.inj z; omega⟩
      have := q H2 (e1.trans e2)
      rw [e] at this
      exact this
    · refine s_ret (ev_andV (hin "sequence" "choice" H1 e1) (fun _ => ev_chain ev_c (ev_op (len e1) ev_c rv_I0) rv_I0 (fun _ => ev_c) (fun _ => rv_I0))) fun H2 e2 => ?_
      have e : fitD h ds.length = (inD h ["sequence", "choice"] && (decide ((2 : Int) ≤ ((v :: vs).length : Int) - 1) && decide (((v :: vs).length : Int) - 1 ≤ 6))) := by
        unfold fitD
        rw [hb]
        show (inD h ["sequence", "choice"] && (decide (2 ≤ ds.length) && decide (ds.length ≤ 6))) = _
        rw [show decide (2 ≤ ds.length) = decide ((2 : Int) ≤ ((v :: vs).length : Int) - 1) from decide_eq_decide.mpr ⟨fun z => by omega, fun z => by omega⟩, show decide (ds.length ≤ 6) = decide (((v :: vs).length : Int) - 1 ≤ 6) from decide_eq_decide.mpr ⟨fun z => by omega, fun z => by omega⟩]
      have := q H2 (e1.trans e2)
      rw [e] at this
      exact this
end
end K02
namespace K02
open PySem PySem.Spec PyProof.Rows L2 Evl Es
def smallD : PyData → Bool
  | .tuple ds => decide ((ds.length : Int) < 2)
  | _ => true
theorem cut_1 (xs : List V) : cutV xs (some 1) none = xs.drop 1 := by
  unfold cutV
  rw [HT.sIx_none, show HT.sIx xs.length 0 (some (1 : Int)) = min 1 xs.length from HT.sIx_nat xs.length 0 1]
  cases xs with
  | nil => rfl
  | cons x r =>
    have e : min 1 (x :: r).length = 1 := by rw [List.length_cons]; omega
    rw [e, List.take_of_length_le (by rw [List.length_drop]; omega)]
def spCnt (D : Nat) : Sp := fun vs H Q _ => ∃ (p : Option Sx) (v : V) (d : PyData) (L : Nat), vs = [v, .int (L : Int)] ∧ L < D ∧ Dd p H v d ∧ Fit 190 d ∧ RetV (.int (cnt L d)) H Q
theorem drop_get {α : Type} : ∀ {l : List α} {i : Nat} {x : α}, l[i]? = some x → l.drop i = x :: l.drop (i + 1)
  | y :: r, 0, x, h => by
    cases h
    rfl
  | y :: r, i + 1, x, h => drop_get (l := r) (i := i) h
section
variable {P : Program} {w : World} {K : PySem.W.Frag} {mg : Str → Option Value} {base : Heap}
theorem ok_cnt {f fT fF aL : Addr} {fd fdT fdF : FuncData} {tk : Tok} (F : Fun K "count_leaves" "count_leaves" sCnt f fd) (b : Binds K fd ["value", "levels"] []) (g : mg "count_leaves" = some (.ref f)) (kT : PySem.W.keepIn K (.ref fT) = true) (GT : ∀ k, FnOk P w K mg base CX0 (k + 1) fT fdT ["value"] spTok) (bT : Binds K fdT ["value"] []) (gT : mg "is_token" = some (.ref fT))
    (kF : PySem.W.keepIn K (.ref fF) = true) (GF : ∀ k, FnOk P w K mg base CX0 (k + 1) fF fdF ["value"] spFit) (bF : Binds K fdF ["value"] []) (gF : mg "has_fitting_parts" = some (.ref fF)) (mi : mg "isinstance" = none) (mt : mg "tuple" = none) (ml : mg "len" = none)
    (mL : mg "LEAF_KINDS" = some (.ref aL)) (hL : ∀ H, SqT K H aL [.str "token", .str "block"]) (mM : mg "MOST_LEAVES" = some (.int 16 tk)) : ∀ D : Nat, FnOk P w K mg base CX0 (D + 1) f fd ["value", "levels"] (spCnt D) := by
  intro D
  induction D with
  | zero => exact ⟨fun vs H Q E ⟨_, _, _, _, _, h, _⟩ => absurd h (Nat.not_lt_zero _), fun _ _ _ _ _ _ _ _ _ _ _ _ _ ⟨_, _, _, _, _, h, _⟩ => absurd h (Nat.not_lt_zero _)⟩
  | succ D ih =>
    refine F.ok scCnt (fun vs H Q E h => ?_) (fun cdv A outer s H vs Q E hr h => ?_)
    · obtain ⟨p, v, d, L, rfl, _⟩ := h
      rfl
    · obtain ⟨p, v, d, L, rfl, hLD, hd, hf, q⟩ := h
      refine ⟨_, pss_cons (ps_if (PW.pt (pw_or (pt_cmpR op_eq (pv 1) pe_int (nomark _)) (pw_or (pt_not (pt_val (pe_callB call_isi (by rfl) mi boot_isinstance (pa_cons (pv 0) (pa_cons (pe_bltn (v := .ty "tuple") (by rfl) mt (by decide +kernel) rfl) pa_nil)))))
            (pw_or1 (pt_cmpR op_lt (pe_callB call_len_seq (by rfl) ml PySem.boot_len (pa_cons (pv 0) pa_nil)) pe_int (nomark _)))))) (pss_one (ps_ret pe_int)) pss_nil)
        (pss_cons (ps_if (pt_cmpR (op_inT hr.units) (pe_ix ix_tup (pv 0) pe_int (fun _ _ => rfl)) (pe_glob (v := .ref aL) (by rfl) mL rfl) (by rfl))
            (pss_one (ps_ret (pe_ifExp (PW.pt (pw_and (pt_cmpR op_eq (pe_callB call_len_seq (by rfl) ml PySem.boot_len (pa_cons (pv 0) pa_nil)) pe_int (nomark _)) (pw_and1 (pt_val (pe_call (GT D) hr (by rfl) gT kT bT .nil pass0 (pa_cons (pe_ix ix_tup (pv 0) pe_int (fun _ _ => rfl)) pa_nil)))))) pe_int pe_int))) pss_nil)
        (pss_cons (ps_if (pt_not (pt_val (pe_call (GF D) hr (by rfl) gF kF bF .nil pass0 (pa_cons (pv 0) pa_nil)))) (pss_one (ps_ret pe_int)) pss_nil)
        (pss_cons (ps_set (i := 2) scCnt.nd rfl (.inl rfl) pe_int)
        (pss_cons (ps_for PassesOwn.never rfl (pi_tup (pe_slice sl_tup (pv 0) (po_some pe_int) po_none)) (pg_name (i := 3) scCnt.nd rfl (.inl rfl))
          (pss_cons (ps_set (i := 4) scCnt.nd rfl (.inl rfl) (pe_call ih hr (by rfl) g F.kp b .nil pass0 (pa_cons (pv 3) (pa_cons (pe_op op_sub (pv 1) pe_int) pa_nil))))
          (pss_cons (ps_if (pt_cmpR op_eq (pv 4) pe_int (nomark _)) (pss_one (ps_ret pe_int)) pss_nil)
          (pss_cons (ps_aug (i := 2) scCnt.nd rfl (.inl rfl) (pv 4) ip_add)
          (pss_one (ps_if (pt_cmpR op_gt (pv 2) (pe_glob (v := .int 16) (by rfl) mM ⟨_, rfl⟩) (nomark _)) (pss_one (ps_ret (pv 2))) pss_nil))))))
        (pss_one (ps_ret (pv 2))))))), ?_⟩
      refine q_when (et_or (b := !isTup d || smallD d) (et_test (ev_op (ev_var rfl) ev_c (rv_eq rfl))) (fun _ => et_or (et_not (et_test (ev_cb (ea_cons (ev_var rfl) (ea_cons ev_c ea_nil)) hd.isiT))) (fun ht => ?_))) (fun hb H1 e1 => ?_) (fun hb H1 e1 => ?_)
      · cases hd with
        | @tup a xs ds na ha hds =>
          have l := hds.length
          refine et_is (et_test (ev_op (ev_cb (ea_cons (ev_var rfl) ea_nil) (fun H3 e3 Q q => ⟨a, xs, rfl, .inr (st_of (e3 _ _ ha)), q H3 (Ex.refl _)⟩)) ev_c rv_I0)) ?_
          show decide ((xs.length : Int) < 2) = decide ((ds.length : Int) < 2)
          rw [l]
        | _ => cases ht
      · refine s_ret ev_c fun H2 e2 => ?_
        have e : cnt L d = 0 := by
          cases L with
          | zero => rfl
          | succ L =>
            have hb' : (decide (V.int ((L + 1 : Nat) : Int) = V.int 0) || (!isTup d || smallD d)) = true := hb
            rw [decide_eq_false (fun z => by have := V.int.inj z; omega), Bool.false_or] at hb'
            match d, hb' with
            | .none, _ => rfl
            | .bool _, _ => rfl
            | .int _, _ => rfl
            | .str _, _ => rfl
            | .list _, _ => rfl
            | .dict _, _ => rfl
            | .tuple [], _ => rfl
            | .tuple [_], _ => rfl
            | .tuple (h :: x :: r), z =>
              have z' : (!true || decide (((h :: x :: r).length : Int) < 2)) = true := z
              rw [Bool.not_true, Bool.false_or] at z'
              have := of_decide_eq_true z'
              rw [List.length_cons, List.length_cons] at this
              omega
        have := q H2 (e1.trans e2)
        rw [e] at this
        exact this
      have hb' : (decide (V.int (L : Int) = V.int 0) || (!isTup d || smallD d)) = false := hb
      obtain ⟨L, rfl⟩ : ∃ M, L = M + 1 := by
        cases L with
        | zero => cases hb'
        | succ M => exact ⟨M, rfl⟩
      rw [Bool.or_eq_false_iff, Bool.or_eq_false_iff] at hb'
      cases hd with
      | @tup a xs ds na ha hds =>
        have l := hds.length
        have hs : decide ((ds.length : Int) < 2) = false := hb'.2.2
        have hs2 := of_decide_eq_false hs
        obtain ⟨h, x, r, rfl⟩ : ∃ h x r, ds = h :: x :: r := by
          match ds, hs2 with
          | [], z => exact absurd (by decide : ((0 : Nat) : Int) < 2) z
          | [_], z => exact absurd (by decide : ((1 : Nat) : Int) < 2) z
          | h :: x :: r, _ => exact ⟨h, x, r, rfl⟩
        obtain ⟨v0, v1, vr, rfl⟩ : ∃ v0 v1 vr, xs = v0 :: v1 :: vr := by
          match xs, l with
          | v0 :: v1 :: vr, _ => exact ⟨v0, v1, vr, rfl⟩
        have l2 : vr.length = r.length := by
          have : vr.length + 1 + 1 = r.length + 1 + 1 := l
          omega
        have hv0 : Dd p H v0 h := by
          cases hds
          assumption
        have hrest : DdAll p H (v1 :: vr) (x :: r) := by
          cases hds
          assumption
        have hv1 : Dd p H v1 x := by
          cases hrest
          assumption
        have fs := fit_fits hf
        have fx : Fit 190 x := fits_get fs (i := 1) rfl
        have hcnt : cnt (L + 1) (.tuple (h :: x :: r)) = if inD h ["token", "block"] then (if decide (r.length = 0) && tokD x then 1 else 0) else if fitD h (r.length + 1) then loop (cnt L) (x :: r) 0 else 0 := rfl
        -- a leaf
        refine q_when (et_test (b := inD h ["token", "block"]) (fun H2 e2 Q q => ⟨.ref a, rfl, a, _, 0, v0, rfl, rfl, st_of (e2 _ _ (e1 _ _ ha)), atI_nat (j := 0) rfl, p, h, aL, ["token", "block"], rfl, hL H2, hv0.up (e1.trans e2), q H2 (Ex.refl _)⟩)) (fun hk H2 e2 => ?_) (fun hk H2 e2 => ?_)
        · have th := hv1.up (e1.trans e2)
          refine s_ret (v := .int (if decide (r.length = 0) && tokD x then 1 else 0)) (ev_if (et_and (b := tokD x) (et_test (ev_op (ev_cb (ea_cons (ev_var rfl) ea_nil) (fun H3 e3 Q q => ⟨a, _, rfl, .inr (st_of (e3 _ _ (e2 _ _ (e1 _ _ ha)))), q H3 (Ex.refl _)⟩)) ev_c (rv_eq rfl)))
            (fun _ => et_test (ev_call (ea_cons (ev_op (ev_var rfl) ev_c (rv_ixT (st_of (e2 _ _ (e1 _ _ ha))) (atI_nat (j := 1) rfl))) ea_nil) (fun H3 e3 Q q E => ⟨p, v1, x, rfl, th.up e3, fx, fun H4 e4 => q H4 e4⟩))))
            (fun hc => ev_is ev_c ?_) (fun hc => ev_is ev_c ?_)) fun H3 e3 => ?_
          · have hc' : (decide (V.int ((v0 :: v1 :: vr).length : Int) = V.int 2) && tokD x) = true := hc
            rw [Bool.and_eq_true] at hc'
            have h1 := V.int.inj (of_decide_eq_true hc'.1)
            rw [List.length_cons, List.length_cons] at h1
            rw [decide_eq_true (show r.length = 0 by omega), hc'.2]
            rfl
          · have hc' : (decide (V.int ((v0 :: v1 :: vr).length : Int) = V.int 2) && tokD x) = false := hc
            by_cases hr0 : r.length = 0
            · rw [decide_eq_true (show V.int ((v0 :: v1 :: vr).length : Int) = V.int 2 by rw [List.length_cons, List.length_cons, l2, hr0]; rfl), Bool.true_and] at hc'
              rw [hc', Bool.and_false]
              rfl
            · rw [decide_eq_false hr0]
              rfl
          · have := q H3 ((e1.trans e2).trans e3)
            rw [hcnt, hk] at this
            exact this
        -- parts
        have e12 := e1.trans e2
        refine q_when (et_not (et_test (ev_call (ea_cons (ev_var rfl) ea_nil) (z := .bl (fitD h (r.length + 1))) (fun H3 e3 Q q E => ⟨p, a, _, h, x :: r, rfl, e3 _ _ (e12 _ _ ha), hds.up (e12.trans e3), fun H4 e4 => q H4 e4⟩)))) (fun hfit H3 e3 => ?_) (fun hfit H3 e3 => ?_)
        · refine s_ret ev_c fun H4 e4 => ?_
          have hf0 : fitD h (r.length + 1) = false := by
            revert hfit
            cases fitD h (r.length + 1) <;> simp
          have := q H4 ((e12.trans e3).trans e4)
          rw [hcnt, hk, hf0] at this
          exact this
        have hf1 : fitD h (r.length + 1) = true := by
          revert hfit
          cases fitD h (r.length + 1) <;> simp
        have e13 := e12.trans e3
        have hq : ∀ H4, Ex H H4 → Q (.int (loop (cnt L) (x :: r) 0)) H4 := fun H4 e4 => by
          have := q H4 e4
          rw [hcnt, hk, hf1] at this
          exact this
        refine q_asg ev_c fun H4 e4 => ?_
        have ha4 := (e13.trans e4) _ _ ha
        refine ⟨.ref a, rfl, 1, rfl, a, _, rfl, st_of ha4, ?_, fun sl nsl => ?_⟩
        · rw [show HT.sIx (v0 :: v1 :: vr).length 0 (some (1 : Int)) = min 1 (v0 :: v1 :: vr).length from HT.sIx_nat _ 0 1, List.length_cons]
          omega
        rw [cut_1]
        have e5 := Ex.new (o := .tup (v1 :: vr)) nsl
        refine ⟨sl, rfl, ⟨v1 :: vr, st_of upd_same⟩, for_tup (fun i σ H' => Ex H H' ∧ H' sl = some (.tup (v1 :: vr)) ∧ ∃ (t : Int) (y3 y4 : Option V), 0 ≤ t ∧ t ≤ 16 ∧ loop (cnt L) (x :: r) 0 = loop (cnt L) ((x :: r).drop i) t ∧ σ = [some (.ref a), some (.int ((L + 1 : Nat) : Int)), some (.int t), y3, y4])
          ⟨(e13.trans e4).trans e5, upd_same, 0, none, none, by decide, by decide, rfl, rfl⟩ (fun i σ H' _ z => st_of z.2.1) ?_ ?_⟩
        · rintro i u σ H' hu ⟨ei, hsl, t, y3, y4, t0, t1, hlp, rfl⟩
          obtain ⟨d, hdi, hud⟩ := hrest.get hu
          have hfd : Fit 190 d := fits_get (fs.sub.1 1) hdi
          rw [drop_get hdi] at hlp
          have hstep : loop (cnt L) (d :: (x :: r).drop (i + 1)) t = if cnt L d = 0 then 0 else if 16 < t + cnt L d then t + cnt L d else loop (cnt L) ((x :: r).drop (i + 1)) (t + cnt L d) := rfl
          have hpos : 0 ≤ cnt L d := cnt_nn L d
          have eL : ((L + 1 : Nat) : Int) - 1 = (L : Int) := by omega
          refine q_asg (v := .int (cnt L d)) (ev_call (ea_cons (ev_var rfl) (ea_cons (ev_op (ev_var rfl) ev_c rv_I0) ea_nil)) (fun H3 e3 Q q E => ⟨p, u, d, L, by rw [eL]; rfl, by omega, hud.up (ei.trans e3), hfd, fun H4 e4 => q H4 e4⟩)) fun H5 e6 => ?_
          refine q_when (et_test (ev_op (ev_var rfl) ev_c (rv_eq rfl))) (fun hz H6 e7 => ?_) (fun hz H6 e7 => ?_)
          · have hz' : cnt L d = 0 := V.int.inj (of_decide_eq_true hz)
            refine s_ret ev_c fun H7 e8 => ?_
            have := hq H7 (((ei.trans e6).trans e7).trans e8)
            rw [hlp, hstep, if_pos hz'] at this
            exact this
          · have hz' : cnt L d ≠ 0 := fun z => of_decide_eq_false hz (by rw [z])
            rw [hstep, if_neg hz'] at hlp
            refine q_aug (f := fun a b => a + b) rfl (ev_var rfl) fun H7 e8 => ?_
            have e68 := (e6.trans e7).trans e8
            refine s_when (et_test (ev_op (ev_var rfl) ev_c rv_I0)) (fun hg H8 e9 => ?_) (fun hg H8 e9 => ?_)
            · have hg' : t + cnt L d > 16 := of_decide_eq_true hg
              refine s_ret (ev_var rfl) fun H9 e10 => ?_
              have := hq H9 (((ei.trans e68).trans e9).trans e10)
              rw [hlp, if_pos hg'] at this
              exact this
            · have hg' : ¬ t + cnt L d > 16 := of_decide_eq_false hg
              rw [if_neg hg'] at hlp
              exact ⟨(ei.trans e68).trans e9, e9 _ _ (e68 _ _ hsl), t + cnt L d, _, _, by omega, by omega, hlp, rfl⟩
        · rintro σ H' ⟨ei, hsl, t, y3, y4, t0, t1, hlp, rfl⟩
          have hlen : (v1 :: vr).length = (x :: r).length := by rw [List.length_cons, List.length_cons, l2]
          rw [hlen, List.drop_length] at hlp
          refine ⟨.int t, rfl, ?_⟩
          have := hq H' ei
          rw [hlp] at this
          exact this
      | _ => cases hb'.2.1
end
end K02
namespace K02
open PySem PySem.Spec PyProof.Rows L2 Evl Es
theorem scPot : FnScope ["_law_script", "_law_k", "_law_cell", "_law_great"] ["_law_script", "_law_k"] (defScope sPot) := ⟨rfl, rfl, rfl, by decide +kernel, rfl, by decide +kernel, by decide +kernel⟩
theorem scTake : FnScope ["_law_pot_here", "_law_size", "_law_digit", "_law_prime", "_law_mixed"] ["_law_pot_here", "_law_size"] (defScope sTake) := ⟨rfl, rfl, rfl, by decide +kernel, rfl, by decide +kernel, by decide +kernel⟩
theorem scPick : FnScope ["_law_pot_here", "_law_some"] ["_law_pot_here", "_law_some"] (defScope sPick) := ⟨rfl, rfl, rfl, by decide +kernel, rfl, by decide +kernel, by decide +kernel⟩
section
variable {P : Program} {w : World} {K : PySem.W.Frag} {mg : Str → Option Value} {base : Heap}
def primes : List V := [.int 2147483647, .int 2147483629, .int 2147483587, .int 2147483579, .int 2147483563]
theorem prime_at (j : Int) (h0 : 0 ≤ j) (h5 : j < 5) : ∃ r : Int, atI primes j = some (.int r) ∧ 0 < r ∧ r ≤ 2147483647 := by
  have : j = 0 ∨ j = 1 ∨ j = 2 ∨ j = 3 ∨ j = 4 := by omega
  rcases this with h | h | h | h | h <;> subst h <;> exact ⟨_, rfl, by decide, by decide⟩
theorem ok_take {f : Addr} {fd : FuncData} {k : Nat} (F : Fun K "_law_take" "_law_take" sTake f fd) : FnOk P w K mg base CX0 (k + 1) f fd ["_law_pot_here", "_law_size"] spTake := by
  refine F.ok scTake (fun vs H Q E h => ?_) (fun cdv A outer s H vs Q E hr h => ?_)
  · obtain ⟨p, n, m, rfl, _⟩ := h
    rfl
  · obtain ⟨p, n, m, rfl, hn1, hn2, hm, hP, q⟩ := h
    obtain ⟨g, s0, c, hp, hg, hs0, hs1, hc0, hc1⟩ := hP
    refine ⟨_, pss_cons (ps_if (pt_cmpR op_gt (pe_ix ix_list (pv 0) pe_int (fun _ _ => rfl)) pe_int (nomark _))
        (pss_cons (ps_set (i := 2) scTake.nd rfl (.inl rfl) (pe_op op_mod (pe_ix ix_list (pv 0) pe_int (fun _ _ => rfl)) (pv 1)))
        (pss_cons (ps_asg (pe_op op_fdiv (pe_ix ix_list (pv 0) pe_int (fun _ _ => rfl)) (pv 1)) (pg_sub (pv 0) pe_int set_list))
        (pss_one (ps_ret (pv 2))))) pss_nil)
      (pss_cons (ps_asg (pe_op op_add (pe_ix ix_list (pv 0) pe_int (fun _ _ => rfl)) pe_int) (pg_sub (pv 0) pe_int set_list))
      (pss_cons (ps_set (i := 3) scTake.nd rfl (.inl rfl) (pe_ix ix_list (pe_lst (pa_cons pe_int (pa_cons pe_int (pa_cons pe_int (pa_cons pe_int (pa_cons pe_int pa_nil)))))) (pe_op op_mod (pe_ix ix_list (pv 0) pe_int (fun _ _ => rfl)) pe_int) (fun _ _ => rfl)))
      (pss_cons (ps_set (i := 4) scTake.nd rfl (.inl rfl) (pe_op op_mod (pe_op op_pow (pe_op op_add (pe_op op_add (pe_ix ix_list (pv 0) pe_int (fun _ _ => rfl))
        (pe_op op_mul (pe_op op_mul pe_int (pe_ix ix_list (pv 0) pe_int (fun _ _ => rfl))) (pe_ix ix_list (pv 0) pe_int (fun _ _ => rfl)))) pe_int) pe_int) (pv 3)))
      (pss_one (ps_ret (pe_op op_mod (pe_op op_fdiv (pe_op op_mod (pe_op op_mul (pv 4) (pe_op op_add (pe_op op_mod (pv 4) pe_int) (pe_op op_mul pe_int (pe_ix ix_list (pv 0) pe_int (fun _ _ => rfl))))) pe_int) pe_int) (pv 1))))))), ?_⟩
    have ix : ∀ {H1 : Hp} {σ : L2.St} {xs : List V} {j : Int} {v : V}, H1 p = some (.lst xs) → σ[0]? = some (some (.ref p)) → atI xs j = some v → Ev (tOp (rIxL K) (tVar 0) (tC (.int j))) σ H1 v :=
      fun h h0 ha => ev_op (ev_var h0) ev_c (rv_ixL (sq_of h) ha)
    refine q_when (et_test (ev_op (ix hp rfl rfl) ev_c rv_I0)) (fun hb H1 e1 => ?_) (fun hb H1 e1 => ?_)
    · refine q_asg (ev_op (ix (e1 _ _ hp) rfl rfl) (ev_var rfl) (rv_I (by show (0 : Int) < n; omega))) fun H2 e2 => ?_
      refine q_setL (j := 0) (e2 _ _ (e1 _ _ hp)) (ev_op (ix (e2 _ _ (e1 _ _ hp)) rfl rfl) (ev_var rfl) (rv_I ⟨by omega, by omega⟩)) (ev_var rfl) ev_c (by show 0 < 3; decide) fun H3 e3 => ?_
      refine s_ret (ev_var rfl) fun H4 e4 => ?_
      refine q (g % n) H4 (Int.emod_nonneg _ (by omega)) (Int.emod_lt_of_pos _ (by omega)) (((Xp.ex ((e1.trans e2).trans e3)).trans Xp.upd).trans (Xp.ex e4)) ?_
      exact ⟨g / n, s0, c, e4 _ _ upd_same, Int.ediv_nonneg hg (by omega), hs0, hs1, hc0, by omega⟩
    · refine q_setL (j := 2) (e1 _ _ hp) (ev_op (ix (e1 _ _ hp) rfl rfl) ev_c rv_I0) (ev_var rfl) ev_c (by show 2 < 3; decide) fun H2 e2 => ?_
      generalize hH3 : upd H2 p _ = H3
      have hp3 : H3 p = some (.lst [.int g, .int s0, .int (c + 1)]) := by rw [← hH3]; exact upd_same
      have x3 : Xp p H H3 := (Xp.ex (e1.trans e2)).trans (by rw [← hH3]; exact Xp.upd)
      obtain ⟨r, hr1, hr2, hr3⟩ := prime_at ((c + 1) % 5) (Int.emod_nonneg _ (by omega)) (Int.emod_lt_of_pos _ (by omega))
      refine q_asg (v := .int r) (ev_opL1 (el_lst (ea_cons ev_c (ea_cons ev_c (ea_cons ev_c (ea_cons ev_c (ea_cons ev_c ea_nil))))) (by decide)) (fun H4 e4 => ev_op (ix (e4 _ _ hp3) rfl rfl) ev_c (rv_I (by show (0 : Int) < 5; decide)))
        (fun l H4 hl e4 => rv_ixL (sq_of hl) hr1)) fun H4 e4 => ?_
      have hp4 := e4 _ _ hp3
      have b1 : (c + 1) * (c + 1) ≤ 200000 * 200000 := Int.mul_le_mul (by omega) (by omega) (by omega) (by omega)
      have b0 : 0 ≤ (c + 1) * (c + 1) := Int.mul_nonneg (by omega) (by omega)
      have b2 : 40009 * (c + 1) * (c + 1) = 40009 * ((c + 1) * (c + 1)) := Int.mul_assoc _ _ _
      generalize (c + 1) * (c + 1) = cc at b1 b0 b2
      refine q_asg (ev_op (ev_op (ev_op (ev_op (ix hp4 rfl rfl) (ev_op (ev_op ev_c (ix hp4 rfl rfl) (rv_I (.inl ⟨by decide, by decide⟩))) (ix hp4 rfl rfl) (rv_I (.inl ⟨by show -(2 ^ 64) < 40009 * (c + 1); omega, by show 40009 * (c + 1) < 2 ^ 64; omega⟩))) rv_I0) ev_c rv_I0) ev_c
        (rv_I ⟨by decide, by decide, by rw [b2]; omega⟩)) (ev_var rfl) (rv_I (by show (0 : Int) < r; exact hr2))) fun H5 e5 => ?_
      generalize hM : ((s0 + 40009 * (c + 1) * (c + 1) + 31) ^ (3 : Int).toNat % r : Int) = M
      have M0 : 0 ≤ M := by rw [← hM]; exact Int.emod_nonneg _ (by omega)
      have M1 : M < r := by rw [← hM]; exact Int.emod_lt_of_pos _ hr2
      refine s_ret (ev_op (ev_op (ev_op (ev_op (ev_var rfl) (ev_op (ev_op (ev_var rfl) ev_c (rv_I (by show (0 : Int) < 10009; decide))) (ev_op ev_c (ix (e5 _ _ hp4) rfl rfl) (rv_I (.inl ⟨by decide, by decide⟩))) rv_I0)
        (rv_I (.inl ⟨by show -(2 ^ 64) < M; omega, by show M < 2 ^ 64; omega⟩))) ev_c (rv_I (by show (0 : Int) < 2305843009213693907; decide))) ev_c (rv_I ⟨by decide, by decide⟩)) (ev_var rfl) (rv_I (by show (0 : Int) < n; omega))) fun H6 e6 => ?_
      exact q _ H6 (Int.emod_nonneg _ (by omega)) (Int.emod_lt_of_pos _ (by omega)) (x3.trans (Xp.ex ((e4.trans e5).trans e6))) ⟨g, s0, c + 1, e6 _ _ (e5 _ _ hp4), hg, hs0, hs1, by omega, by omega⟩
def absI (i : Int) : Int := if i < 0 then -i else i
theorem abs_nn (i : Int) : 0 ≤ absI i := by
  unfold absI
  split <;> omega
def rAbs : List V → Hp → VK → Prop := fun xs H Q => ∃ i, xs = [.int i] ∧ Q (.int (absI i)) H
theorem rc_abs {H : Hp} {i : Int} : RC rAbs [.int i] H (.int (absI i)) := fun H1 _ _ q => ⟨i, rfl, q H1 (Ex.refl _)⟩
theorem rc_lenL {H : Hp} {a : Addr} {xs : List V} (h : SqL K H a xs) : RC (rLenS K) [.ref a] H (.int (xs.length : Int)) := fun H1 e _ q => ⟨a, xs, rfl, .inl (ex_l e h), q H1 (Ex.refl _)⟩
/-- the pot of a cell -/
def spPot (K : PySem.W.Frag) : Sp := fun vs H Q _ => ∃ (a : Addr) (k : Nat) (ns : List Int), vs = [.ref a, .int (k : Int)] ∧ k ≤ 10 ∧ SqL K H a (ns.map V.int) ∧
  ∀ p H', H p = none → Ex H H' → Pot H' p 0 → Q (.ref p) H'
theorem ok_pot {f : Addr} {fd : FuncData} {k : Nat} (F : Fun K "_law_pot" "_law_pot" sPot f fd) (ml : mg "len" = none) (ma : mg "abs" = none) : FnOk P w K mg base CX0 (k + 1) f fd ["_law_script", "_law_k"] (spPot K) := by
  refine F.ok scPot (fun vs H Q E h => ?_) (fun cdv A outer s H vs Q E hr h => ?_)
  · obtain ⟨a, n, ns, rfl, _⟩ := h
    rfl
  · obtain ⟨a, n, ns, rfl, hn, hS, q⟩ := h
    refine ⟨_, pss_cons (ps_set (i := 2) scPot.nd rfl (.inl rfl) (pe_ifExp (pt_cmpR op_lt (pv 1) (pe_callB call_len_seq (by rfl) ml PySem.boot_len (pa_cons (pv 0) pa_nil)) (nomark _))
        (pe_ix ix_list (pv 0) (pv 1) (fun _ _ => rfl)) (pe_op op_add (pe_op op_mul pe_int (pv 1)) pe_int)))
      (pss_cons (ps_set (i := 3) scPot.nd rfl (.inl rfl) (pe_ifExp (pt_cmpR op_ge (pe_callB call_abs (by rfl) ma boot_abs (pa_cons (pv 2) pa_nil)) (pe_op op_pow pe_int pe_int) (nomark _))
        (pe_op op_mod (pe_callB call_abs (by rfl) ma boot_abs (pa_cons (pv 2) pa_nil)) (pe_op op_powW (pe_op op_pow pe_int pe_int) pe_int)) pe_int))
      (pss_one (ps_ret (pe_lst (pa_cons (pv 3) (pa_cons (pe_op op_mod (pe_op op_add (pe_op op_add (pe_op op_mul (pe_op op_mod (pv 2) pe_int) pe_int) (pe_op op_mul (pe_op op_mul pe_int (pv 1)) (pv 1))) pe_int) pe_int) (pa_cons pe_int pa_nil))))))), ?_⟩
    have hcell : ∃ c : Int, ((n : Int) < ((ns.map V.int).length : Int) → atI (ns.map V.int) (n : Int) = some (.int c)) ∧ (¬ (n : Int) < ((ns.map V.int).length : Int) → 17 * (n : Int) + 3 = c) := by
      by_cases hlt : n < ns.length
      · refine ⟨ns[n], fun _ => atI_nat ?_, fun z => absurd (by rw [List.length_map]; omega) z⟩
        rw [List.getElem?_map, List.getElem?_eq_getElem hlt]
        rfl
      · exact ⟨_, fun z => absurd z (by rw [List.length_map]; omega), fun _ => rfl⟩
    obtain ⟨c, hc1, hc2⟩ := hcell
    refine q_asg (v := .int c) (ev_if (et_test (ev_op (ev_var rfl) (ev_cb (ea_cons (ev_var rfl) ea_nil) (rc_lenL hS)) rv_I0)) (fun hb => ev_op (ev_var rfl) (ev_var rfl) (rv_ixL hS (hc1 (of_decide_eq_true hb))))
      (fun hb => ev_is (ev_op (ev_op ev_c (ev_var rfl) (rv_I (.inl ⟨by decide, by decide⟩))) ev_c rv_I0) (by rw [hc2 (of_decide_eq_false hb)]))) fun H1 e1 => ?_
    have hgr : ∃ g : Int, 0 ≤ g ∧ (absI c ≥ 10 ^ (18 : Int).toNat → absI c % (10 ^ (60 : Int).toNat) ^ (3 : Int).toNat = g) ∧ (¬ absI c ≥ 10 ^ (18 : Int).toNat → (0 : Int) = g) := by
      by_cases h : absI c ≥ 10 ^ (18 : Int).toNat
      · exact ⟨_, Int.emod_nonneg _ (by decide), fun _ => rfl, fun z => absurd h z⟩
      · exact ⟨0, Int.le_refl _, fun z => absurd z h, fun _ => rfl⟩
    obtain ⟨g, hg0, hg1, hg2⟩ := hgr
    refine q_asg (v := .int g) (ev_if (et_test (ev_op (ev_cb (ea_cons (ev_var rfl) ea_nil) rc_abs) (ev_op ev_c ev_c (rv_I ⟨by decide, by decide, by decide⟩)) rv_I0))
      (fun hb => ev_is (ev_op (ev_cb (ea_cons (ev_var rfl) ea_nil) rc_abs) (ev_op (ev_op ev_c ev_c (rv_I ⟨by decide, by decide, by decide⟩)) ev_c (rv_I (show CPowW _ _ from ⟨by decide, by decide +kernel⟩))) (rv_I (by decide))) (by rw [hg1 (of_decide_eq_true hb)]))
      (fun hb => ev_is ev_c (by rw [← hg2 (of_decide_eq_false hb)]))) fun H2 e2 => ?_
    have m0 := Int.emod_nonneg c (show (2305843009213693951 : Int) ≠ 0 by decide)
    have m1 := Int.emod_lt_of_pos c (show (0 : Int) < 2305843009213693951 by decide)
    refine s_retL (el_lst (ea_cons (ev_var rfl) (ea_cons (ev_op (ev_op (ev_op (ev_op (ev_op (ev_var rfl) ev_c (rv_I (by show (0 : Int) < 2305843009213693951; decide))) ev_c (rv_I (.inl ⟨by omega, by omega⟩)))
      (ev_op (ev_op ev_c (ev_var rfl) (rv_I (.inl ⟨by decide, by decide⟩))) (ev_var rfl) (rv_I (.inr ⟨by omega, by omega⟩))) rv_I0) ev_c rv_I0) ev_c (rv_I (by show (0 : Int) < 2305843009213693921; decide))) (ea_cons ev_c ea_nil))) (by show 3 ≤ 100000; decide)) fun p H3 hp e3 h3 => ?_
    refine q p H3 (fresh_back (e1.trans e2) hp) ((e1.trans e2).trans e3) ⟨g, _, 0, h3, hg0, Int.emod_nonneg _ (by decide), ?_, by decide, by decide⟩
    refine Int.lt_trans (Int.emod_lt_of_pos _ (by decide)) (by decide)
def spPickL : Sp := fun vs H Q _ => ∃ (p a : Addr) (m : Int) (xs : List V), vs = [.ref p, .ref a] ∧ m ≤ 100000 ∧ Pot H p m ∧ a ≠ p ∧ H a = some (.lst xs) ∧ 1 ≤ xs.length ∧ xs.length ≤ 1000 ∧
  ∀ v H', v ∈ xs → Xp p H H' → Pot H' p (m + 1) → Q v H'
theorem ok_pickL {f fT : Addr} {fd fdT : FuncData} {k : Nat} (F : Fun K "_law_pick" "_law_pick" sPick f fd) (FT : Fun K "_law_take" "_law_take" sTake fT fdT) (bT : Binds K fdT ["_law_pot_here", "_law_size"] []) (gT : mg "_law_take" = some (.ref fT)) (ml : mg "len" = none) :
    FnOk P w K mg base CX0 (k + 2) f fd ["_law_pot_here", "_law_some"] spPickL := by
  refine F.ok scPick (fun vs H Q E h => ?_) (fun cdv A outer s H vs Q E hr h => ?_)
  · obtain ⟨p, a, m, xs, rfl, _⟩ := h
    rfl
  · obtain ⟨p, a, m, xs, rfl, hm, hP, hne, ha, h1, h2, q⟩ := h
    refine ⟨_, pss_one (ps_ret (pe_ix ix_list (pv 1) (pe_call (ok_take FT) hr (by rfl) gT FT.kp bT .nil pass0 (pa_cons (pv 0) (pa_cons (pe_callB call_len_seq (by rfl) ml PySem.boot_len (pa_cons (pv 1) pa_nil)) pa_nil))) (fun _ _ => rfl))), ?_⟩
    refine ⟨_, rfl, _, rfl, _, rfl, a, xs, rfl, .inl (sq_of ha), p, _, m, rfl, by omega, by omega, hm, hP, fun r H' h0 h3 x pp => ?_⟩
    have hc : r.toNat < xs.length := by omega
    refine ⟨a, xs, r, xs[r.toNat], rfl, rfl, sq_of (x a _ hne ha), ?_, q _ H' (List.getElem_mem hc) x pp⟩
    have := atI_nat (xs := xs) (j := r.toNat) (v := xs[r.toNat]) (List.getElem?_eq_getElem hc)
    rw [Int.toNat_of_nonneg h0] at this
    exact this
end
end K02
namespace K02
open PySem PySem.Spec PyProof.Rows L2 Evl Es
abbrev nExpr : List Str := ["_law_pot_here", "_law_leaf_menu", "_law_depth", "_law_kind", "_law_parts", "_law_turn"]
theorem scExpr : FnScope nExpr ["_law_pot_here", "_law_leaf_menu", "_law_depth"] (defScope sExpr) := ⟨rfl, rfl, rfl, by decide +kernel, rfl, by decide +kernel, by decide +kernel⟩
section
variable {P : Program} {w : World} {K : PySem.W.Frag} {mg : Str → Option Value} {base : Heap}
theorem ok_expr {f fT fP : Addr} {fd fdT fdP : FuncData} (F : Fun K "_law_expression" "_law_expression" sExpr f fd) (bF : Binds K fd ["_law_pot_here", "_law_leaf_menu", "_law_depth"] []) (gF : mg "_law_expression" = some (.ref f))
    (FT : Fun K "_law_take" "_law_take" sTake fT fdT) (bT : Binds K fdT ["_law_pot_here", "_law_size"] []) (gT : mg "_law_take" = some (.ref fT))
    (FP : Fun K "_law_pick" "_law_pick" sPick fP fdP) (bP : Binds K fdP ["_law_pot_here", "_law_some"] []) (gP : mg "_law_pick" = some (.ref fP)) (ml : mg "len" = none) (mr : mg "range" = none) (mt : mg "tuple" = none) :
    ∀ d : Nat, FnOk P w K mg base CX0 (d + 3) f fd ["_law_pot_here", "_law_leaf_menu", "_law_depth"] (spExpr d) := by
  intro d
  induction d with
  | zero => exact ⟨fun vs H Q E ⟨_, _, _, _, _, h, _⟩ => absurd h (Nat.not_lt_zero _), fun _ _ _ _ _ _ _ _ _ _ _ _ _ ⟨_, _, _, _, _, h, _⟩ => absurd h (Nat.not_lt_zero _)⟩
  | succ d ih =>
    have G1 : FnOk P w K mg base CX0 (d + 3) fT fdT ["_law_pot_here", "_law_size"] spTake := ok_take FT
    have G3 : FnOk P w K mg base CX0 (d + 3) fP fdP ["_law_pot_here", "_law_some"] spPickL := ok_pickL FP FT bT gT ml
    refine F.ok scExpr (fun vs H Q E h => ?_) (fun cdv A outer s H vs Q E hr h => ?_)
    · obtain ⟨p, m, n, c, rfl, _⟩ := h
      rfl
    · obtain ⟨p, m, n, c, rfl, hnd, hn8, hc0, hc1, hP, hM, q⟩ := h
      refine ⟨_, Evl.pss_cut (ps_set (i := 3) scExpr.nd rfl (.inl rfl) (pe_ifExp (pt_cmpR op_gt (pv 2) pe_int (nomark _)) (pe_call G1 hr (by rfl) gT FT.kp bT .nil pass0 (pa_cons (pv 0) (pa_cons pe_int pa_nil))) pe_int))
        (pss_cons (ps_if (pt_cmpR op_lt (pv 3) pe_int (nomark _)) (pss_one (ps_ret (pe_call G3 hr (by rfl) gP FP.kp bP .nil pass0 (pa_cons (pv 0) (pa_cons (pv 1) pa_nil))))) pss_nil)
        (pss_cons (ps_if (pt_cmpR op_lt (pv 3) pe_int (nomark _)) (pss_one (ps_ret (pe_tup (pa_cons (pe_ix ix_list (pe_lst (pa_cons pe_str (pa_cons pe_str pa_nil))) (pe_op op_sub (pv 3) pe_int) (fun _ _ => rfl))
            (pa_cons (pe_call ih hr (by rfl) gF F.kp bF .nil pass0 (pa_cons (pv 0) (pa_cons (pv 1) (pa_cons (pe_op op_sub (pv 2) pe_int) pa_nil)))) pa_nil))))) pss_nil)
        (pss_cons (ps_setLc (i := 4) (own := [("_law_turn", 5)]) (g := gName 5) (tt := tYes) rfl scExpr.nd rfl rfl (sw_true rfl rfl rfl (by decide +kernel))
          (pi_range1 (by rfl) mr (pa_cons (pe_op op_add pe_int (pe_call G1 hr (by rfl) gT FT.kp bT .nil pass0 (pa_cons (pv 0) (pa_cons pe_int pa_nil)))) pa_nil))
          (blkOk_by (N := nExpr) (sc := defScope sExpr) (own := [("_law_turn", 5)]) (by decide +kernel)) (fun _ _ _ _ _ => pg_name (i := 5) scExpr.nd rfl (Or.inl rfl)) (fun _ _ _ _ _ => pts_nil)
          (fun _ _ _ _ _ => pe_call ih hr (by rfl) gF F.kp bF .nil pass0 (pa_cons (pv 0) (pa_cons (pv 1) (pa_cons (pe_op op_sub (pv 2) pe_int) pa_nil)))))
        (pss_one (ps_ret (pe_op op_catT (pe_tup (pa_cons (pe_ix ix_list (pe_lst (pa_cons pe_str (pa_cons pe_str (pa_cons pe_str pa_nil)))) (pe_op op_sub (pv 3) pe_int) (fun _ _ => rfl)) pa_nil))
          (pe_callTy call_tuple_of (by rfl) mt (by decide +kernel) (pa_cons (pv 4) pa_nil)))))))), ?_⟩
      -- the kind
      refine ⟨fun σ' H1 => ∃ r : Int, σ' = [some (.ref p), some (.ref m), some (.int (n : Int)), some (.int r), none, none] ∧ 0 ≤ r ∧ r < 7 ∧ (r < 2 ∨ 1 ≤ n) ∧ Xp p H H1 ∧ Pot H1 p (c + min (n : Int) 1), ?_, ?_⟩
      · refine ⟨.int (n : Int), rfl, (n : Int), 0, rfl, rfl, _, rfl, ite2 (fun hb => ?_) (fun hb => ?_)⟩
        · have hn : (0 : Int) < n := of_decide_eq_true hb
          exact ⟨.ref p, rfl, p, 7, c, rfl, by decide, by decide, by have := cost_pos n; omega, hP, fun r H1 r0 r1 x1 P1 => ⟨r, rfl, r0, r1, .inr (by omega), x1, P1.more (by omega)⟩⟩
        · have hn : ¬ (0 : Int) < n := fun z => hb (decide_eq_true z)
          exact ⟨0, rfl, by decide, by decide, .inl (by decide), Xp.refl _ _, hP.more (by omega)⟩
      rintro σ' H1 ⟨r, rfl, r0, r7, hrn, x1, P1⟩
      have hM1 := hM.xp x1
      have hbg := bg_ge n
      have hcp := cost_pos n
      have hcn : 1 ≤ n → cost n = 3 + 3 * cost (n - 1) ∧ bg n = 12 + 3 * bg (n - 1) := fun h => by
        obtain ⟨k, rfl⟩ : ∃ k, n = k + 1 := ⟨n - 1, by omega⟩
        exact ⟨rfl, rfl⟩
      refine ⟨.int r, rfl, r, 2, rfl, rfl, _, rfl, ite2 (fun hb => ?_) (fun hb => ?_)⟩
      · -- a leaf of the menu
        obtain ⟨hmp, ms, hm, m1, m2, m3⟩ := hM1
        have hmin : min (n : Int) 1 + 1 ≤ cost n := by
          cases n with
          | zero => decide
          | succ k =>
            have := (hcn (by omega)).1
            have := cost_pos (k + 1 - 1)
            omega
        refine ⟨.ref p, rfl, .ref m, rfl, p, m, _, ms, rfl, by omega, P1, hmp, hm, m1, by omega, fun v H2 hv x2 P2 => ?_⟩
        obtain ⟨t, ht, hok, hdp⟩ := m3 v hv
        exact q v t H2 (x1.trans x2) (ht.xp x2) hok (by omega) (by rw [dep0_big hdp]; exact hbg) (P2.more (by omega))
      have r2 : ¬ r < 2 := fun z => hb (decide_eq_true z)
      have n1 : 1 ≤ n := hrn.resolve_left r2
      obtain ⟨k, rfl⟩ : ∃ k, n = k + 1 := ⟨n - 1, by omega⟩
      have hck : cost (k + 1) = 3 + 3 * cost k := rfl
      have hbk : bg (k + 1) = 12 + 3 * bg k := rfl
      have hk1 := cost_pos k
      have hk2 := bg_ge k
      have ek : (((k + 1 : Nat) : Int) - 1) = (k : Int) := by omega
      have P1' : Pot H1 p (c + 1) := P1.more (by omega)
      refine ⟨.int r, rfl, r, 4, rfl, rfl, _, rfl, ite2 (fun hb => ?_) (fun hb => ?_)⟩
      · -- one part
        have r4 : r < 4 := of_decide_eq_true hb
        obtain ⟨kd, hkd, hat⟩ := kind2 r (by omega) r4
        refine ⟨sz_of (by decide), fun l nl => ⟨.int r, rfl, r, 2, rfl, rfl, l, _, r - 2, .str kd, rfl, rfl, sq_of upd_same, hat, ?_⟩⟩
        have e1 := Ex.new (o := .lst [.str "repeat", .str "optional"]) nl
        refine ⟨.ref p, rfl, .ref m, rfl, .int ((k + 1 : Nat) : Int), rfl, _, 1, rfl, rfl, p, m, k, c + 1, by show [V.ref p, V.ref m, V.int (((k + 1 : Nat) : Int) - 1)] = _; rw [ek], by omega, by omega, by omega, by omega, P1'.up e1, hM1.xp (Xp.ex e1), fun v t H2 x2 ht hok hdp hbig P2 => ?_⟩
        refine ⟨sz_of (by show 2 ≤ 100000; decide), fun a na => ?_⟩
        have e2 := Ex.new (o := .tup [.str kd, v]) na
        refine q (.ref a) (.node kd [t]) _ (((x1.trans (Xp.ex e1)).trans x2).trans (Xp.ex e2)) (.node (P2.ne na) upd_same (.cons (ht.up e2) .nil)) ⟨hkd, by simp, hok, trivial⟩ ?_ ?_ ((P2.up e2).more (by omega))
        · show max t.dep 0 + 1 ≤ k + 1
          omega
        · show 9 + (t.big + 1 + 0) ≤ bg (k + 1)
          omega
      -- two or three parts
      have r4 : ¬ r < 4 := fun z => hb (decide_eq_true z)
      obtain ⟨kd, hkd, hat⟩ := kind3 r (by omega) r7
      refine ⟨.ref p, rfl, p, 2, c + 1, rfl, by decide, by decide, by omega, P1', fun r3 H2 s0 s1 x2 P2 => ?_⟩
      refine ⟨2, r3, rfl, rfl, 2 + r3, rfl, by omega, by omega, fun D nD => ?_⟩
      refine lc_range (lo := 0) (n := (2 + r3).toNat) (fun i H' => Xp p H2 H' ∧ Pot H' p (c + 2 + i * cost k) ∧ ∃ vs ts, H' D = some (.lst vs) ∧ ts.length = i ∧ Parts p H' k vs ts) ?_ ?_ ?_
      · exact ⟨(Xp.refl _ _).mut nD, (P2.up (Ex.new nD)).more (by omega), [], [], upd_same, rfl, .nil, trivial, Nat.zero_le _, Nat.zero_le _⟩
      · rintro i H' hi ⟨xi, Pi, vs, ts, hD, hl, h1, h2, h3, h4⟩
        have hi3 : (i : Int) ≤ 2 := by omega
        have hic : (i : Int) * cost k ≤ 2 * cost k := Int.mul_le_mul_of_nonneg_right hi3 (by omega)
        have hic0 : 0 ≤ (i : Int) * cost k := Int.mul_nonneg (by omega) (by omega)
        refine ⟨rfl, .ref p, rfl, .ref m, rfl, .int ((k + 1 : Nat) : Int), rfl, _, 1, rfl, rfl, p, m, k, c + 2 + i * cost k, by show [V.ref p, V.ref m, V.int (((k + 1 : Nat) : Int) - 1)] = _; rw [ek], by omega, by omega, by omega, by omega, Pi, (hM1.xp x2).xp xi, fun v t H3 x3 ht hok hdp hbig P3 => ?_⟩
        have nDp : D ≠ p := P2.ne nD
        have hD3 := x3 D _ nDp hD
        have hlv := h1.length
        refine ⟨vs, hD3, sz_lt (by omega), (xi.trans x3).mut nD, ?_, vs ++ [v], ts ++ [t], upd_same, by rw [List.length_append, hl]; rfl, ?_, oks_app h2 ⟨hok, trivial⟩, ?_, ?_⟩
        · obtain ⟨g, s0', c0, hh, q1, q2, q3, q4, q5⟩ := P3
          refine ⟨g, s0', c0, ?_, q1, q2, q3, q4, ?_⟩
          · rw [upd_ne nDp.symm]
            exact hh
          · have : ((i + 1 : Nat) : Int) * cost k = i * cost k + cost k := by
              rw [Int.natCast_add, Int.add_mul]
              omega
            rw [this]
            omega
        · exact ((h1.xp x3).append (.cons ht .nil)).mutL hD3
        · rw [deps_app]
          show max (Tr.deps ts) (max t.dep 0) ≤ k
          omega
        · rw [bigs_app, List.length_append]
          show Tr.bigs ts + (t.big + 1 + 0) ≤ (ts.length + 1) * (bg k + 1)
          rw [Nat.add_mul]
          omega
      rintro H3 ⟨x3, P3, vs, ts, hD, hl, h1, h2, h3, h4⟩
      have hlv := h1.length
      have nDp : D ≠ p := P2.ne nD
      refine ⟨sz_of (by decide), fun l nl => ⟨.int r, rfl, r, 4, rfl, rfl, l, _, r - 4, .str kd, rfl, rfl, sq_of upd_same, hat, ?_⟩⟩
      have e1 := Ex.new (o := .lst [.str "sequence", .str "choice", .str "sequence"]) nl
      refine ⟨sz_of (by show 1 ≤ 100000; decide), fun a na => ?_⟩
      have e2 := Ex.new (o := .tup [.str kd]) na
      refine ⟨.ref D, rfl, D, vs, rfl, .inl ⟨sq_of (e2 _ _ (e1 _ _ hD)), fun b nb => ?_⟩⟩
      have e3 := Ex.new (o := .tup vs) nb
      have hts : ts.length = (2 + r3).toNat := hl
      refine ⟨a, b, [.str kd], vs, rfl, rfl, st_of (e3 _ _ upd_same), st_of upd_same, by simp, sz_of (by rw [List.length_singleton]; omega), fun z => ?_, fun _ t nt => ?_⟩
      · rw [z] at hlv
        have : ts.length = 0 := hlv.symm
        omega
      have e4 := Ex.new (o := .tup ([.str kd] ++ vs)) nt
      have e14 := ((e1.trans e2).trans e3).trans e4
      have c3 : (((2 + r3).toNat : Nat) : Int) * cost k ≤ 3 * cost k := Int.mul_le_mul_of_nonneg_right (by omega) (by omega)
      refine q (.ref t) (.node kd ts) _ (((x1.trans x2).trans x3).trans (Xp.ex e14)) (.node ((P3.up ((e1.trans e2).trans e3)).ne nt) upd_same (h1.up e14)) ⟨hkd, ?_, h2⟩ ?_ ?_ ((P3.up e14).more (by omega))
      · intro z
        rw [z] at hts
        have : 0 = (2 + r3).toNat := hts
        omega
      · show Tr.deps ts + 1 ≤ k + 1
        omega
      · show 9 + Tr.bigs ts ≤ bg (k + 1)
        have : ts.length * (bg k + 1) ≤ 3 * (bg k + 1) := Nat.mul_le_mul_right _ (by omega)
        omega
end
end K02
namespace K02
open PySem PySem.Spec PyProof.Rows L2 Evl Es
theorem scLTok : FnScope ["_law_thing", "_law_letters", "_law_sign"] ["_law_thing"] (defScope sLTok) := ⟨rfl, rfl, rfl, by decide +kernel, rfl, by decide +kernel, by decide +kernel⟩
abbrev nLCnt : List Str := ["_law_thing", "_law_depth", "_law_kind", "_law_rest", "_law_fits", "_law_part"]
theorem scLCnt : FnScope nLCnt ["_law_thing", "_law_depth"] (defScope sLCnt) := ⟨rfl, rfl, rfl, by decide +kernel, rfl, by decide +kernel, by decide +kernel⟩
theorem scLIsE : FnScope ["_law_thing"] ["_law_thing"] (defScope sLIsE) := ⟨rfl, rfl, rfl, by decide +kernel, rfl, by decide +kernel, by decide +kernel⟩
def okE (d : PyData) : Bool := decide (1 ≤ cnt 8 d) && decide (cnt 8 d ≤ 16)
def spIsE : Sp := fun vs H Q _ => ∃ (p : Option Sx) (v : V) (d : PyData), vs = [v] ∧ Dd p H v d ∧ Fit 190 d ∧ RetV (.bl (okE d)) H Q
def spLC (D : Nat) : Sp := fun vs H Q _ => ∃ (p : Option Sx) (v : V) (d : PyData) (L : Nat), vs = [v, .int (L : Int)] ∧ L < D ∧ Dd p H v d ∧ Fit 190 d ∧ RetV (.int (lc L d)) H Q
def strHd : PyData → Bool
  | .tuple (h :: _) => isStr h
  | _ => false
theorem eqV_str (z y : Str) : (z == y) = decide (V.str z = V.str y) := by
  by_cases h : z = y
  · subst h
    rw [decide_eq_true rfl]
    exact beq_self_eq_true z
  · rw [decide_eq_false (fun e => h (V.str.inj e))]
    exact beq_eq_false_iff_ne.mpr h
theorem fit_seq {z : Str} {n : Nat} (h : inD (.str z) ["sequence", "choice"] = true) : fitD (.str z) n = (decide ((1 : Int) < (n : Int)) && decide ((n : Int) < 7)) := by
  have h' : ((z == "sequence") || ((z == "choice") || false)) = true := h
  have hn : inD (.str z) ["repeat", "optional"] = false := by
    rw [Bool.or_false, Bool.or_eq_true] at h'
    rcases h' with e | e
    · rw [eq_of_beq e]
      decide +kernel
    · rw [eq_of_beq e]
      decide +kernel
  unfold fitD
  rw [hn, h, Bool.true_and]
  show (decide (2 ≤ n) && decide (n ≤ 6)) = _
  rw [show decide (2 ≤ n) = decide ((1 : Int) < (n : Int)) from decide_eq_decide.mpr (by omega), show decide (n ≤ 6) = decide ((n : Int) < 7) from decide_eq_decide.mpr (by omega)]
theorem fit_rep {z : Str} {n : Nat} (h : inD (.str z) ["sequence", "choice"] = false) : fitD (.str z) n = (inD (.str z) ["repeat", "optional"] && decide (V.int (n : Int) = V.int 1)) := by
  unfold fitD
  rw [h, Bool.false_and]
  cases inD (.str z) ["repeat", "optional"] with
  | true =>
    show decide (n = 1) = decide _
    exact decide_eq_decide.mpr ⟨fun e => by rw [e]; rfl, fun e => by have := V.int.inj e; omega⟩
  | false => rfl
section
variable {P : Program} {w : World} {K : PySem.W.Frag} {mg : Str → Option Value} {base : Heap}
theorem ok_isE {f fC : Addr} {fd fdC : FuncData} {k : Nat} {t1 t2 : Tok} (F : Fun K "is_expression" "is_expression" sIsE f fd) (G : FnOk P w K mg base CX0 k fC fdC ["value", "levels"] (spCnt 9)) (b : Binds K fdC ["value", "levels"] []) (g : mg "count_leaves" = some (.ref fC)) (kp : PySem.W.keepIn K (.ref fC) = true)
    (mV : mg "MOST_LEVELS" = some (.int 8 t1)) (mM : mg "MOST_LEAVES" = some (.int 16 t2)) : FnOk P w K mg base CX0 (k + 1) f fd ["value"] spIsE := by
  refine F.ok scIsE (fun vs H Q E h => ?_) (fun cdv A outer s H vs Q E hr h => ?_)
  · obtain ⟨p, v, d, rfl, _⟩ := h
    rfl
  · obtain ⟨p, v, d, rfl, hd, hf, q⟩ := h
    refine ⟨_, pss_one (ps_ret (pe_chain op_le op_le pe_int (pe_call G hr (by rfl) g kp b .nil pass0 (pa_cons (pv 0) (pa_cons (pe_glob (v := .int 8) (by rfl) mV ⟨_, rfl⟩) pa_nil))) (pe_glob (v := .int 16) (by rfl) mM ⟨_, rfl⟩))), ?_⟩
    exact s_ret (ev_chain ev_c (ev_call (z := .int (cnt 8 d)) (ea_cons (ev_var rfl) (ea_cons ev_c ea_nil)) (fun H3 e3 Q q E => ⟨p, v, d, 8, rfl, by decide, hd.up e3, hf, fun H4 e4 => q H4 e4⟩)) rv_I0 (fun _ => ev_c) (fun _ => rv_I0)) fun H2 e2 => q H2 e2
theorem ok_ltok {f : Addr} {fd : FuncData} {k : Nat} (F : Fun K "_law_is_token" "_law_is_token" sLTok f fd) (mi : mg "isinstance" = none) (ms : mg "str" = none) (ml : mg "len" = none) (my : mg "any" = none) :
    FnOk P w K mg base CX0 (k + 1) f fd ["_law_thing"] spTok := by
  refine F.ok scLTok (fun vs H Q E h => ?_) (fun cdv A outer s H vs Q E hr h => ?_)
  · obtain ⟨p, v, d, rfl, _⟩ := h
    rfl
  · obtain ⟨p, v, d, rfl, hd, hf, q⟩ := h
    refine ⟨_, pss_cons (ps_set (i := 1) scLTok.nd rfl (.inr rfl) pe_str)
      (pss_one (ps_ret (pe_and (pe_callB call_isi (by rfl) mi boot_isinstance (pa_cons (pv 0) (pa_cons (pe_bltn (v := .ty "str") (by rfl) ms PyProof.Rows.boot_str rfl) pa_nil)))
        (pe_and (pe_chain op_lt op_lt pe_int (pe_callB call_len (by rfl) ml PySem.boot_len (pa_cons (pv 0) pa_nil)) pe_int)
        (pe_one (pe_not (pe_callB (cr_any rfl) (by rfl) my boot_any (pa_cons
          (pe_lc (own := [("_law_sign", 2)]) (g := gName 2) (tt := tYes) rfl scLTok.nd (pi_str (pv 0)) (blkOk_by (N := ["_law_thing", "_law_letters", "_law_sign"]) (sc := defScope sLTok) (own := [("_law_sign", 2)]) (by decide +kernel)) (fun _ _ _ _ _ => pg_name (i := 2) scLTok.nd rfl (Or.inl rfl)) (fun _ _ _ _ _ => pts_nil)
            (fun _ _ _ _ _ => pe_cmpR op_notIn_sign (pv 2) (pv 1) (by rfl))) pa_nil)))))))), ?_⟩
    refine q_asg ev_c fun H1 e1 => ?_
    have hd1 := hd.up e1
    by_cases hs : isStr d = true
    · cases hd with
      | str z =>
        have hz := fit_len hf
        refine s_ret (ev_andV (ev_cb (ea_cons (ev_var rfl) (ea_cons ev_c ea_nil)) hd1.isiS) (fun _ => ev_andV (ev_chain ev_c (ev_cb (ea_cons (ev_var rfl) ea_nil) (rc_lenS2 (by omega))) rv_I0 (fun _ => ev_c) (fun _ => rv_I0))
          (fun _ => ev_notV (ev_cbL (el_lcS (fun c => .bl (!decide (c ∈ abc.cps.toList))) (ev_var rfl) (by show z.length ≤ 40000; omega) (fun _ => rfl) (fun c H2 _ _ => ev_op (ev_var rfl) (ev_var rfl) rv_notInSign))
              (fun p H2 hp _ => rc_any (bs := z.cps.toList.map fun c => !decide (c ∈ abc.cps.toList)) (by rw [hp, List.map_map]; rfl)))))) (fun H2 e2 => ?_)
        have e : tokD (.str z) = (isStr (.str z) && ((decide ((0 : Int) < (z.length : Int)) && decide ((z.length : Int) < 9)) && !(z.cps.toList.map fun c => !decide (c ∈ abc.cps.toList)).any id)) := by
          show ((decide (1 ≤ (z.length : Int)) && decide ((z.length : Int) ≤ 8)) && (z.cps.toList.map fun c => decide (c ∈ abc.cps.toList)).all id) = (true && _)
          rw [Bool.true_and]
          congr 1
          · rw [show decide ((0 : Int) < (z.length : Int)) = decide (1 ≤ (z.length : Int)) from rfl, show decide ((z.length : Int) < 9) = decide ((z.length : Int) ≤ 8) from decide_eq_decide.mpr (by omega)]
          · induction z.cps.toList with
            | nil => rfl
            | cons c r ih =>
              rw [List.map_cons, List.all_cons, ih, List.map_cons, List.any_cons, Bool.not_or]
              show (decide (c ∈ abc.cps.toList) && _) = (!(!decide (c ∈ abc.cps.toList)) && _)
              rw [Bool.not_not]
        have := q H2 (e1.trans e2)
        rw [e] at this
        exact this
      | _ => cases hs
    · have hs' : isStr d = false := by
        revert hs
        cases isStr d <;> simp
      have ht : tokD d = false := by
        cases d <;> first | rfl | cases hs'
      refine s_ret (ev_andV (a := false) (b := false) (ev_is (ev_cb (ea_cons (ev_var rfl) (ea_cons ev_c ea_nil)) hd1.isiS) (by rw [hs'])) (fun z => nomatch z)) (fun H2 e2 => ?_)
      have := q H2 (e1.trans e2)
      rw [ht] at this
      exact this
theorem ok_lcnt {f fT : Addr} {fd fdT : FuncData} (F : Fun K "_law_leaf_count" "_law_leaf_count" sLCnt f fd) (b : Binds K fd ["_law_thing", "_law_depth"] []) (g : mg "_law_leaf_count" = some (.ref f)) (kT : PySem.W.keepIn K (.ref fT) = true) (GT : ∀ k, FnOk P w K mg base CX0 (k + 1) fT fdT ["_law_thing"] spTok) (bT : Binds K fdT ["_law_thing"] []) (gT : mg "_law_is_token" = some (.ref fT))
    (mi : mg "isinstance" = none) (mt : mg "tuple" = none) (ml : mg "len" = none) (ms : mg "str" = none) (mu : mg "sum" = none) : ∀ D : Nat, FnOk P w K mg base CX0 (D + 1) f fd ["_law_thing", "_law_depth"] (spLC D) := by
  intro D
  induction D with
  | zero => exact ⟨fun vs H Q E ⟨_, _, _, _, _, h, _⟩ => absurd h (Nat.not_lt_zero _), fun _ _ _ _ _ _ _ _ _ _ _ _ _ ⟨_, _, _, _, _, h, _⟩ => absurd h (Nat.not_lt_zero _)⟩
  | succ D ih =>
    refine F.ok scLCnt (fun vs H Q E h => ?_) (fun cdv A outer s H vs Q E hr h => ?_)
    · obtain ⟨p, v, d, L, rfl, _⟩ := h
      rfl
    · obtain ⟨p, v, d, L, rfl, hLD, hd, hf, q⟩ := h
      refine ⟨_, pss_cons (ps_if (PW.pt (pw_or (pt_not (pt_val (pe_callB call_isi (by rfl) mi boot_isinstance (pa_cons (pv 0) (pa_cons (pe_bltn (v := .ty "tuple") (by rfl) mt (by decide +kernel) rfl) pa_nil)))))
            (pw_or (pt_cmpR op_lt (pe_callB call_len_seq (by rfl) ml PySem.boot_len (pa_cons (pv 0) pa_nil)) pe_int (nomark _)) (pw_or (pt_cmpR op_eq (pv 1) pe_int (nomark _))
            (pw_or1 (pt_not (pt_val (pe_callB call_isi (by rfl) mi boot_isinstance (pa_cons (pe_ix ix_tup (pv 0) pe_int (fun _ _ => rfl)) (pa_cons (pe_bltn (v := .ty "str") (by rfl) ms PyProof.Rows.boot_str rfl) pa_nil)))))))))) (pss_one (ps_ret (pe_un un_neg pe_int))) pss_nil)
        (pss_cons (ps_par rfl scLCnt.nd rfl rfl (by decide) rfl rfl (i := 2) (j := 3) (pa_cons (pe_ix ix_tup (pv 0) pe_int (fun _ _ => rfl)) (pa_cons (pe_slice sl_tup (pv 0) (po_some pe_int) po_none) pa_nil)) (by rfl))
        (pss_cons (ps_if (PW.pt (pw_or (pt_cmpR op_eq (pv 2) pe_str (nomark _)) (pw_or1 (pt_cmpR op_eq (pv 2) pe_str (nomark _)))))
            (pss_one (ps_ret (pe_ifExp (PW.pt (pw_and (pt_cmpR op_eq (pe_callB call_len_seq (by rfl) ml PySem.boot_len (pa_cons (pv 3) pa_nil)) pe_int (nomark _)) (pw_and1 (pt_val (pe_call (GT D) hr (by rfl) gT kT bT .nil pass0 (pa_cons (pe_ix ix_tup (pv 3) pe_int (fun _ _ => rfl)) pa_nil)))))) pe_int (pe_un un_neg pe_int)))) pss_nil)
        (Evl.pss_cut (ps_if (PW.pt (pw_or (pt_cmpR op_eq (pv 2) pe_str (nomark _)) (pw_or1 (pt_cmpR op_eq (pv 2) pe_str (nomark _)))))
            (pss_one (ps_set (i := 4) scLCnt.nd rfl (.inl rfl) (pe_chain op_lt op_lt pe_int (pe_callB call_len_seq (by rfl) ml PySem.boot_len (pa_cons (pv 3) pa_nil)) pe_int)))
            (pss_one (ps_set (i := 4) scLCnt.nd rfl (.inl rfl) (pe_and (pe_cmpR (op_inT hr.units) (pv 2) (pe_tup (pa_cons pe_str (pa_cons pe_str pa_nil))) (by rfl)) (pe_one (pe_cmpR op_eq (pe_callB call_len_seq (by rfl) ml PySem.boot_len (pa_cons (pv 3) pa_nil)) pe_int (nomark _)))))))
        (pss_one (ps_ret (pe_ifExp (pt_val (pv 4)) (pe_callB (cr_sum rfl) (by rfl) mu boot_sum (pa_cons
          (pe_lc (own := [("_law_part", 5)]) (g := gName 5) (tt := tYes) rfl scLCnt.nd (pi_tup (pv 3)) (blkOk_by (N := nLCnt) (sc := defScope sLCnt) (own := [("_law_part", 5)]) (by decide +kernel)) (fun _ _ _ _ _ => pg_name (i := 5) scLCnt.nd rfl (Or.inl rfl)) (fun _ _ _ _ _ => pts_nil)
            (fun _ _ _ _ _ => pe_call ih hr (by rfl) g F.kp b .nil pass0 (pa_cons (pv 5) (pa_cons (pe_op op_sub (pv 1) pe_int) pa_nil)))) pa_nil)) (pe_un un_neg pe_int))))))), ?_⟩
      have neg : ∀ {σ : L2.St} {H1 : Hp}, Ev (tUn (rU fun i => .int (-i)) (tC (.int 1000))) σ H1 (.int (-1000)) := fun H2 _ Q q => ⟨1000, rfl, q H2 (Ex.refl _)⟩
      -- the form
      refine q_when (et_or (b := smallD d || (decide (V.int (L : Int) = V.int 0) || !strHd d)) (et_not (et_test (ev_cb (ea_cons (ev_var rfl) (ea_cons ev_c ea_nil)) hd.isiT))) (fun ht => et_or (a := smallD d) ?_ (fun hs => et_or (et_test (ev_op (ev_var rfl) ev_c (rv_eq rfl))) (fun _ => ?_)))) (fun hb H1 e1 => ?_) (fun hb H1 e1 => ?_)
      · cases hd with
        | @tup a xs ds na ha hds =>
          have l := hds.length
          refine et_is (et_test (ev_op (ev_cb (ea_cons (ev_var rfl) ea_nil) (fun H3 e3 Q q => ⟨a, xs, rfl, .inr (st_of (e3 _ _ ha)), q H3 (Ex.refl _)⟩)) ev_c rv_I0)) ?_
          show decide ((xs.length : Int) < 2) = decide ((ds.length : Int) < 2)
          rw [l]
        | _ => cases ht
      · cases hd with
        | @tup a xs ds na ha hds =>
          cases hds with
          | nil => cases hs
          | @cons v0 vr h dr hv0 hvr =>
            refine et_is (b := !isStr h) (et_not (a := isStr h) (et_test (ev_cb (ea_cons (ev_op (ev_var rfl) ev_c (rv_ixT (st_of ha) (atI_nat (j := 0) rfl))) (ea_cons ev_c ea_nil)) hv0.isiS))) rfl
        | _ => cases ht
      · refine s_ret neg fun H2 e2 => ?_
        have e : lc L d = -1000 := by
          cases L with
          | zero => rfl
          | succ L =>
            have hb' : (!isTup d || (smallD d || (decide (V.int ((L + 1 : Nat) : Int) = V.int 0) || !strHd d))) = true := hb
            rw [decide_eq_false (fun z => by have := V.int.inj z; omega), Bool.false_or] at hb'
            match d, hb' with
            | .none, _ => rfl
            | .bool _, _ => rfl
            | .int _, _ => rfl
            | .str _, _ => rfl
            | .list _, _ => rfl
            | .dict _, _ => rfl
            | .tuple [], _ => rfl
            | .tuple [_], _ => rfl
            | .tuple (h :: x :: r), z =>
              have z' : (!true || (decide (((h :: x :: r).length : Int) < 2) || !isStr h)) = true := z
              rw [Bool.not_true, Bool.false_or, decide_eq_false (by rw [List.length_cons, List.length_cons]; omega), Bool.false_or] at z'
              cases h with
              | str y => cases z'
              | _ => rfl
        have := q H2 (e1.trans e2)
        rw [e] at this
        exact this
      have hb' : (!isTup d || (smallD d || (decide (V.int (L : Int) = V.int 0) || !strHd d))) = false := hb
      rw [Bool.or_eq_false_iff, Bool.or_eq_false_iff, Bool.or_eq_false_iff] at hb'
      obtain ⟨L, rfl⟩ : ∃ M, L = M + 1 := by
        cases L with
        | zero => cases hb'.2.2.1
        | succ M => exact ⟨M, rfl⟩
      cases hd with
      | @tup a xs ds na ha hds =>
        have l := hds.length
        have hs2 := of_decide_eq_false (show decide ((ds.length : Int) < 2) = false from hb'.2.1)
        obtain ⟨h, x, r, rfl⟩ : ∃ h x r, ds = h :: x :: r := by
          match ds, hs2 with
          | [], z => exact absurd (by decide : ((0 : Nat) : Int) < 2) z
          | [_], z => exact absurd (by decide : ((1 : Nat) : Int) < 2) z
          | h :: x :: r, _ => exact ⟨h, x, r, rfl⟩
        obtain ⟨v0, v1, vr, rfl⟩ : ∃ v0 v1 vr, xs = v0 :: v1 :: vr := by
          match xs, l with
          | v0 :: v1 :: vr, _ => exact ⟨v0, v1, vr, rfl⟩
        have l2 : vr.length = r.length := by
          have : vr.length + 1 + 1 = r.length + 1 + 1 := l
          omega
        have hh : (!isStr h) = false := hb'.2.2.2
        have hv0 : Dd p H v0 h := by
          cases hds
          assumption
        have hrest : DdAll p H (v1 :: vr) (x :: r) := by
          cases hds
          assumption
        have hv1 : Dd p H v1 x := by
          cases hrest
          assumption
        have fs := fit_fits hf
        have fx : Fit 190 x := fits_get fs (i := 1) rfl
        cases hv0 with
        | str z =>
          have hlc : lc (L + 1) (.tuple (.str z :: x :: r)) = if inD (.str z) ["token", "block"] then (if decide (r.length = 0) && tokD x then 1 else -1000) else if fitD (.str z) (r.length + 1) then ((x :: r).map (lc L)).sum else -1000 := rfl
          have hin : ∀ y1 y2 : Str, inD (.str z) [y1, y2] = (decide (V.str z = V.str y1) || decide (V.str z = V.str y2)) := fun y1 y2 => by
            show ((z == y1) || ((z == y2) || false)) = _
            rw [Bool.or_false]
            congr 1
            · exact (eqV_str z y1)
            · exact (eqV_str z y2)
          -- kind and rest
          refine ⟨.ref a, rfl, a, _, 0, .str z, rfl, rfl, st_of (e1 _ _ ha), atI_nat (j := 0) rfl, .ref a, rfl, 1, rfl, a, _, rfl, st_of (e1 _ _ ha), ?_, fun sl nsl => ?_⟩
          · rw [show HT.sIx (V.str z :: v1 :: vr).length 0 (some (1 : Int)) = min 1 (V.str z :: v1 :: vr).length from HT.sIx_nat _ 0 1, List.length_cons]
            omega
          rw [cut_1, show List.drop 1 (V.str z :: v1 :: vr) = v1 :: vr from rfl]
          have e5 := Ex.new (o := .tup (v1 :: vr)) nsl
          have e15 := e1.trans e5
          have hsl0 : upd H1 sl (.tup (v1 :: vr)) sl = some (.tup (v1 :: vr)) := upd_same
          refine ⟨_, _, rfl, ?_⟩
          generalize upd H1 sl (.tup (v1 :: vr)) = H2 at e5 e15 hsl0 ⊢
          have len : ∀ {H3 : Hp} {σ : L2.St}, Ex H2 H3 → σ[3]? = some (some (.ref sl)) → Ev (tCB (rLenS K) (tCons (tVar 3) tNil)) σ H3 (.int ((r.length + 1 : Nat) : Int)) := fun e hσ => ev_is (ev_cb (ea_cons (ev_var hσ) ea_nil) (fun H4 e4 Q q => ⟨sl, v1 :: vr, rfl, .inr (st_of (e4 _ _ (e _ _ hsl0))), q H4 (Ex.refl _)⟩)) (by show V.int ((vr.length + 1 : Nat) : Int) = _; rw [l2])
          have hq : ∀ H4, Ex H2 H4 → Q (.int (lc (L + 1) (.tuple (.str z :: x :: r)))) H4 := fun H4 e4 => q H4 (e15.trans e4)
          -- a leaf
          refine q_when (et_or (et_test (ev_op (ev_var rfl) ev_c (rv_eq rfl))) (fun _ => et_test (ev_op (ev_var rfl) ev_c (rv_eq rfl)))) (fun hk H3 e3 => ?_) (fun hk H3 e3 => ?_)
          · have hk' : inD (.str z) ["token", "block"] = true := (hin _ _).trans hk
            have hv13 := hv1.up (e15.trans e3)
            refine s_ret (v := .int (if decide (r.length = 0) && tokD x then 1 else -1000)) (ev_if (et_and (b := tokD x) (et_test (ev_op (len e3 rfl) ev_c (rv_eq rfl)))
              (fun _ => et_test (ev_call (ea_cons (ev_op (ev_var rfl) ev_c (rv_ixT (st_of (e3 _ _ hsl0)) (atI_nat (j := 0) rfl))) ea_nil) (fun H3 e3 Q q E => ⟨p, v1, x, rfl, hv13.up e3, fx, fun H4 e4 => q H4 e4⟩))))
              (fun hc => ev_is ev_c ?_) (fun hc => ev_is neg ?_)) fun H4 e4 => ?_
            · have hc' : (decide (V.int ((r.length + 1 : Nat) : Int) = V.int 1) && tokD x) = true := hc
              rw [Bool.and_eq_true] at hc'
              have h1 := V.int.inj (of_decide_eq_true hc'.1)
              rw [decide_eq_true (show r.length = 0 by omega), hc'.2]
              rfl
            · have hc' : (decide (V.int ((r.length + 1 : Nat) : Int) = V.int 1) && tokD x) = false := hc
              by_cases hr0 : r.length = 0
              · rw [decide_eq_true (show V.int ((r.length + 1 : Nat) : Int) = V.int 1 by rw [hr0]; rfl), Bool.true_and] at hc'
                rw [hc', Bool.and_false]
                rfl
              · rw [decide_eq_false hr0]
                rfl
            · have := hq H4 (e3.trans e4)
              rw [hlc, hk'] at this
              exact this
          have hk' : inD (.str z) ["token", "block"] = false := (hin _ _).trans hk
          -- as many parts as fit
          refine ⟨fun σ' H4 => Ex H3 H4 ∧ σ' = [some (.ref a), some (.int ((L + 1 : Nat) : Int)), some (.str z), some (.ref sl), some (.bl (fitD (.str z) (r.length + 1))), none], ?_, ?_⟩
          · refine s_if (et_or (et_test (ev_op (ev_var rfl) ev_c (rv_eq rfl))) (fun _ => et_test (ev_op (ev_var rfl) ev_c (rv_eq rfl)))) (fun hc H4 e4 => ?_) (fun hc H4 e4 => ?_)
            · have hc' : inD (.str z) ["sequence", "choice"] = true := (hin _ _).trans hc
              refine s_asg (ev_chain ev_c (len (e3.trans e4) rfl) rv_I0 (fun _ => ev_c) (fun _ => rv_I0)) fun H5 e5 => ⟨e4.trans e5, ?_⟩
              rw [fit_seq hc']
              rfl
            · have hc' : inD (.str z) ["sequence", "choice"] = false := (hin _ _).trans hc
              have hct : ∀ H5, Ex H4 H5 → Ev (tOp (rInT K) (tVar 2) (tTup (tCons (tC (.str "repeat")) (tCons (tC (.str "optional")) tNil)))) [some (.ref a), some (.int ((L + 1 : Nat) : Int)), some (.str z), some (.ref sl), none, none] H5 (.bl (inD (.str z) ["repeat", "optional"])) := fun H5 e5 H6 e6 Q q =>
                ⟨.str z, rfl, sz_of (by decide), fun t nt => ⟨none, .str z, t, ["repeat", "optional"], rfl, st_of upd_same, .str z, q _ (Ex.new nt)⟩⟩
              refine s_asg (ev_andV (hct H4 (Ex.refl _)) (fun _ => ev_op (len (e3.trans e4) rfl) ev_c (rv_eq rfl))) fun H5 e5 => ⟨e4.trans e5, ?_⟩
              rw [fit_rep hc']
              rfl
          rintro σ' H4 ⟨e4, rfl⟩
          have e34 := e3.trans e4
          refine s_ret (v := .int (if fitD (.str z) (r.length + 1) then ((x :: r).map (lc L)).sum else -1000)) (ev_if (b := fitD (.str z) (r.length + 1)) (et_test (ev_var rfl)) (fun hc => ?_) (fun hc => ev_is neg (by rw [hc]; rfl))) fun H5 e5 => ?_
          · intro H6 e6 Q2 q2
            have e26 := e34.trans e6
            refine ⟨.ref sl, rfl, sl, rfl, ⟨_, st_of (e26 _ _ hsl0)⟩, fun Dd0 nD => ?_⟩
            have eL : ((L + 1 : Nat) : Int) - 1 = (L : Int) := by omega
            refine lc_tup (g := gName 5) (tt := tYes) (vs := [5]) (fun i H' => Ex H6 H' ∧ H' Dd0 = some (.lst ((((x :: r).take i).map (lc L)).map V.int))) ⟨Ex.new nD, upd_same⟩ (fun i H' _ y => st_of (y.1 _ _ (e26 _ _ hsl0))) ?_ ?_
            · rintro i u H' hu ⟨e, hD⟩
              obtain ⟨d, hdi, hud⟩ := hrest.get hu
              have hfd : Fit 190 d := fits_get (fs.sub.1 1) hdi
              refine ⟨rfl, u, rfl, .int ((L + 1 : Nat) : Int), rfl, _, 1, rfl, rfl, p, u, d, L, by show [u, V.int (((L + 1 : Nat) : Int) - 1)] = _; rw [eL], by omega, (hud.up (e15.trans e26)).up e, hfd, fun H7 e7 => ⟨_, e7 _ _ hD, ?_, Ex.mut (e.trans e7) nD, ?_⟩⟩
              · rw [List.length_map, List.length_map, List.length_take]
                have := (fs.sub.1 1).length
                exact sz_lt (by show min i (x :: r).length < 100000; have : (x :: r).length ≤ 8 * 190 := this; omega)
              · rw [upd_same, List.take_add_one, hdi, List.map_append, List.map_append]
                rfl
            · rintro H' ⟨e, hD⟩
              have hlen : (v1 :: vr).length = (x :: r).length := by rw [List.length_cons, List.length_cons, l2]
              rw [hlen, List.take_length] at hD
              refine ⟨Dd0, _, rfl, sq_of hD, ?_⟩
              have := q2 H' e
              rw [hc] at this
              exact this
          · have := hq H5 (e34.trans e5)
            rw [hlc, hk'] at this
            exact this
        | _ => cases hh
      | _ => cases hb'.1
theorem ok_lisE {f fC : Addr} {fd fdC : FuncData} {k : Nat} (F : Fun K "_law_is_expression" "_law_is_expression" sLIsE f fd) (G : FnOk P w K mg base CX0 k fC fdC ["_law_thing", "_law_depth"] (spLC 9)) (b : Binds K fdC ["_law_thing", "_law_depth"] []) (g : mg "_law_leaf_count" = some (.ref fC)) (kp : PySem.W.keepIn K (.ref fC) = true) : FnOk P w K mg base CX0 (k + 1) f fd ["_law_thing"] spIsE := by
  refine F.ok scLIsE (fun vs H Q E h => ?_) (fun cdv A outer s H vs Q E hr h => ?_)
  · obtain ⟨p, v, d, rfl, _⟩ := h
    rfl
  · obtain ⟨p, v, d, rfl, hd, hf, q⟩ := h
    refine ⟨_, pss_one (ps_ret (pe_chain op_lt op_lt pe_int (pe_call G hr (by rfl) g kp b .nil pass0 (pa_cons (pv 0) (pa_cons pe_int pa_nil))) pe_int)), ?_⟩
    refine s_ret (ev_chain ev_c (ev_call (z := .int (lc 8 d)) (ea_cons (ev_var rfl) (ea_cons ev_c ea_nil)) (fun H3 e3 Q q E => ⟨p, v, d, 8, rfl, by decide, hd.up e3, hf, fun H4 e4 => q H4 e4⟩)) rv_I0 (fun _ => ev_c) (fun _ => rv_I0)) fun H2 e2 => ?_
    have := q H2 e2
    rw [show okE d = _ from same (by have := hf.2.2.1; omega)] at this
    exact this
end
end K02
namespace K02
open PySem PySem.Spec PyProof.Rows L2 Evl Es
abbrev nOdd : List Str := ["_law_pot_here", "_law_part", "_law_some", "_law_changed"]
theorem scOdd : FnScope nOdd ["_law_pot_here", "_law_part"] (defScope sOdd) := ⟨rfl, rfl, rfl, by decide +kernel, rfl, by decide +kernel, by decide +kernel⟩
def texts : List Str := leafKinds ++ nodeKinds ++ names
def fits (n : Nat) (z : Str) : Bool := (z.cps.toList.all fun c => decide (c < 16 ^ 8)) && decide (z.length ≤ 8 * n)
theorem fit_b {n : Nat} {z : Str} (h : fits n z = true) : Fit n (.str z) := by
  have h' : ((z.cps.toList.all fun c => decide (c < 16 ^ 8)) && decide (z.length ≤ 8 * n)) = true := h
  rw [Bool.and_eq_true] at h'
  exact fit_str h'.1 (of_decide_eq_true h'.2)
theorem text_facts : ∀ z ∈ texts, (fits 1 z && fits 2 (z ++ "x") && fits 2 (cutS z none (some (-1))) && fits 2 (Txt.upper z) && fits 8 (rep8 z) && fits 2 (z ++ ".") && decide (1 ≤ z.length) && decide (z.length ≤ 8)) = true := by decide +kernel
/-- a part of an expression: a tuple or one of the texts -/
def Prt (S : Sx) (H : Hp) (v : V) (d : PyData) : Prop := Dd (some S) H v d ∧ ((∃ ds, d = .tuple ds) ∨ ∃ z ∈ texts, d = .str z)
def spOdd : Sp := fun vs H Q _ => ∃ (S : Sx) (v : V) (d : PyData) (n : Nat) (c : Int), vs = [.ref S.p, v] ∧ Prt S H v d ∧ Fit n d ∧ n ≤ 1000 ∧ 0 ≤ c ∧ c + 1 ≤ 90000 ∧ PotS S H c ∧
  ∀ u e H', Xp S.p H H' → PotS S H' (c + 1) → Dd (some S) H' u e → Fit (2 * n + 8) e → Q u H'
section
variable {P : Program} {w : World} {K : PySem.W.Frag} {mg : Str → Option Value} {base : Heap}
theorem fs {S : Sx} {σ : L2.St} {H : Hp} {n : Nat} (z : Str) (h : fits n z = true := by decide +kernel) : EvP S 0 (tC (.str z)) σ H (Fit n) := evp_str (fit_b h)
theorem fsN {S : Sx} {σ : L2.St} {H : Hp} {n : Nat} (z : Str) (m : Nat) (h : fits n z = true := by decide +kernel) (hn : n ≤ 8 := by decide) : EvP S 0 (tC (.str z)) σ H (Fit (2 * m + 8)) := evp_str ((fit_b h).more (by omega))
theorem ok_odd {f fT fP : Addr} {fd fdT fdP : FuncData} {k : Nat} (F : Fun K "_law_odd" "_law_odd" sOdd f fd) (FT : Fun K "_law_take" "_law_take" sTake fT fdT) (bT : Binds K fdT ["_law_pot_here", "_law_size"] []) (gT : mg "_law_take" = some (.ref fT))
    (FP : Fun K "_law_pick" "_law_pick" sPick fP fdP) (bP : Binds K fdP ["_law_pot_here", "_law_some"] []) (gP : mg "_law_pick" = some (.ref fP)) (ml : mg "len" = none) (mi : mg "isinstance" = none) (mt : mg "tuple" = none) (ms : mg "str" = none) (mL : mg "list" = none) :
    FnOk P w K mg base CX0 (k + 3) f fd ["_law_pot_here", "_law_part"] spOdd := by
  have G3 : FnOk P w K mg base CX0 (k + 2) fP fdP ["_law_pot_here", "_law_some"] spPickL := ok_pickL FP FT bT gT ml
  refine F.ok scOdd (fun vs H Q E h => ?_) (fun cdv A outer s H vs Q E hr h => ?_)
  · obtain ⟨S, v, d, n, c, rfl, _⟩ := h
    rfl
  · obtain ⟨S, v, d, n, c, rfl, ⟨hd, hk⟩, hf, hn, hc0, hc1, hP, q⟩ := h
    refine ⟨_, pss_cons (ps_set (i := 2) scOdd.nd rfl (.inl rfl) (pe_lst (pa_cons pe_non (pa_cons pe_bl (pa_cons pe_bl (pa_cons pe_int (pa_cons pe_int (pa_cons (pe_un un_neg pe_int) (pa_cons pe_str (pa_cons pe_str (pa_cons pe_str (pa_cons pe_str (pa_cons pe_str (pa_cons (pe_tup pa_nil) (pa_cons (pe_lst1 pa_nil) (pa_cons pe_dnewK pa_nil))))))))))))))))
      (pss_cons (ps_set (i := 2) scOdd.nd rfl (.inl rfl) (pe_op op_cat (pv 2) (pe_lst (pa_cons (pe_tup (pa_cons pe_str pa_nil)) (pa_cons (pe_tup (pa_cons pe_str (pa_cons pe_str (pa_cons pe_str pa_nil)))) pa_nil)))))
      (Evl.pss_cut (ps_if (pt_val (pe_callB call_isi (by rfl) mi boot_isinstance (pa_cons (pv 1) (pa_cons (pe_bltn (v := .ty "tuple") (by rfl) mt (by decide +kernel) rfl) pa_nil))))
          (pss_cons (ps_set (i := 3) scOdd.nd rfl (.inl rfl) (pe_lst (pa_cons (pe_callTy cr_listT1 (by rfl) mL (by decide +kernel) (pa_cons (pv 1) pa_nil)) (pa_cons (pe_slice sl_tupA (pv 1) po_none (po_some (pe_un un_neg pe_int))) (pa_cons (pe_slice sl_tupA (pv 1) (po_some pe_int) po_none)
              (pa_cons (pe_op op_catA (pv 1) (pe_slice sl_tupA (pv 1) (po_some (pe_un un_neg pe_int)) po_none)) (pa_cons (pe_revT (pv 1)) (pa_cons (pe_tup (pa_cons (pv 1) pa_nil)) (pa_cons (pe_op op_catA (pv 1) (pe_tup (pa_cons pe_non pa_nil))) pa_nil)))))))))
          (pss_cons (ps_set (i := 2) scOdd.nd rfl (.inl rfl) (pe_op op_cat (pe_slice sl_list (pv 2) po_none (po_some pe_int)) (pe_op op_rep (pv 3) pe_int)))
          (pss_one (ps_set (i := 2) scOdd.nd rfl (.inl rfl) (pe_op op_cat (pv 2) (pe_lst (pa_cons (pe_op op_catA (pe_tup (pa_cons pe_str pa_nil)) (pe_slice sl_tupA (pv 1) (po_some pe_int) po_none)) (pa_cons (pe_op op_catA (pe_tup (pa_cons pe_str pa_nil)) (pe_slice sl_tupA (pv 1) (po_some pe_int) po_none))
            (pa_cons (pe_op op_catA (pe_tup (pa_cons pe_str pa_nil)) (pe_slice sl_tupA (pv 1) (po_some pe_int) po_none)) pa_nil)))))))))
          (pss_one (ps_if (pt_val (pe_callB call_isi (by rfl) mi boot_isinstance (pa_cons (pv 1) (pa_cons (pe_bltn (v := .ty "str") (by rfl) ms PyProof.Rows.boot_str rfl) pa_nil))))
            (pss_cons (ps_set (i := 3) scOdd.nd rfl (.inl rfl) (pe_lst (pa_cons (pe_op op_add_str (pv 1) pe_str) (pa_cons (pe_slice sl_str (pv 1) po_none (po_some (pe_un un_neg pe_int))) (pa_cons (pe_upper (pv 1)) (pa_cons (pe_op op_mul8 (pv 1) pe_int) (pa_cons (pe_tup (pa_cons (pv 1) pa_nil)) (pa_cons (pe_op op_add_str (pv 1) pe_str) pa_nil))))))))
            (pss_one (ps_set (i := 2) scOdd.nd rfl (.inl rfl) (pe_op op_cat (pe_op op_cat (pe_slice sl_list (pv 2) po_none (po_some pe_int)) (pe_op op_rep (pv 3) pe_int)) (pe_lst (pa_cons pe_str (pa_cons pe_str (pa_cons pe_str pa_nil)))))))) pss_nil)))
      (pss_one (ps_ret (pe_call G3 hr (by rfl) gP FP.kp bP .nil pass0 (pa_cons (pv 0) (pa_cons (pv 2) pa_nil))))))), ?_⟩
    have hsome := evl_lst (S := S) (σ := L2.start nOdd [.ref S.p, v]) (H := H) (N := 14) (L := AllFit (2 * n + 8))
      (evpan (evp_non (fit_non.more (by omega))) (evpan (evp_bl ((fit_bl true).more (by omega))) (evpan (evp_bl ((fit_bl false).more (by omega))) (evpan (evp_int (z := 0) ((fit_int (i := 0) (by decide) (by decide +kernel)).more (by omega))) (evpan (evp_int (z := 1) ((fit_int (i := 1) (by decide) (by decide +kernel)).more (by omega))) (evpan (evp_neg (i := 1) ((fit_int (i := -1) (by decide) (by decide +kernel)).more (by omega)))
      (evpan (fsN (n := 2) "" n) (evpan (fsN (n := 2) "a" n) (evpan (fsN (n := 2) "A" n) (evpan (fsN (n := 2) "a b" n) (evpan (fsN (n := 2) "abcdefghi" n) (evpan (evp_tup' (evpa_nil Fits.nil) (by omega) (by omega)) (evpan (evp_imp (evp_lst1 (evpa_nil Fits.nil) (by decide)) fun d h => h.more (by omega)) (evpan (evp_imp evp_dk0 fun d h => h.more (by omega))
      evpan_nil (by decide)) (by decide)) (by decide)) (by decide)) (by decide)) (by decide)) (by decide)) (by decide)) (by decide)) (by decide)) (by decide)) (by decide)) (by decide)) (by decide)) (by decide)
    refine qp_asg (hsome H c (Xp.refl _ _) hP hc0 (by omega) _ fun l1 vs1 ds1 H1 x1 P1 nl1 hl1 hds1 hL1 => ?_)
    have hplus := evl_cat (S := S) (σ := [some (.ref S.p), some v, some (.ref l1), none]) (H := H1) (L := AllFit (2 * n + 8)) (A := 14) (B := 2) (evl_var (i := 2) rfl nl1 hl1 hds1 hL1)
      (evl_lst (N := 2) (evpan (evp_tup' (m := 2 * n + 8) (evpa_t (fs (n := 1) "token") (evpa_nil Fits.nil) (by decide)) (by omega) (by omega)) (evpan (evp_tup' (m := 2 * n + 8) (evpa_t (fs (n := 1) "token") (evpa_t (fs (n := 1) "a") (evpa_t (fs (n := 1) "b") (evpa_nil Fits.nil) (by decide)) (by decide)) (by decide)) (by omega) (by omega)) evpan_nil (by decide)) (by decide)) (by decide)) (by decide) (by decide) (by decide) (fun _ _ a b => a.app b)
    refine qp_asg (hplus H1 (c + 0) (Xp.refl _ _) P1 (by omega) (by omega) _ fun l2 vs2 ds2 H2 x2 P2 nl2 hl2 hds2 hL2 => ?_)
    have hlen2 := hL2.2
    have x12 := x1.trans x2
    refine ⟨fun σ' H' => ∃ l vs ds y, σ' = [some (.ref S.p), some v, some (.ref l), y] ∧ Xp S.p H H' ∧ PotS S H' c ∧ l ≠ S.p ∧ H' l = some (.lst vs) ∧ DdAll (some S) H' vs ds ∧ AllFit (2 * n + 8) ds ∧ 1 ≤ ds.length ∧ ds.length ≤ 100, ?_, ?_⟩
    · rcases hk with ⟨ds, rfl⟩ | ⟨z, hz, rfl⟩
      · have hd2 := hd.xp x12
        have ff := fit_fits hf
        refine s_if (et_test (ev_cb (ea_cons (ev_var rfl) (ea_cons ev_c ea_nil)) hd2.isiT)) (fun _ H3 e3 => ?_) (fun hb => by cases hb)
        have hd3 := hd2.up e3
        cases hd with
        | @tup a xs _ na ha hxs =>
          have nl3 := nl2
          have hl3 := e3 _ _ hl2
          have hds3 := hds2.up e3
          have hch := evl_lst (S := S) (σ := [some (.ref S.p), some (.ref a), some (.ref l2), none]) (H := H3) (N := 7) (L := AllFit (2 * n + 8))
            (evpan (evp_imp (evp_listT (K := K) (i := 1) rfl hd3 ff) fun d h => h.more (by omega))
            (evpan (evp_imp (evp_cutG (K := K) (i := 1) (lo := none) (hi := some (-1)) (tl := tNoPart) (th := tPart (tUn (rU fun i => .int (-i)) (tC (.int 1)))) rfl hd3 ff (fun H1 Q q => q) (fun H1 Q q => ⟨1, rfl, -1, rfl, q⟩)) fun d h => h.fit.more (by omega))
            (evpan (evp_imp (evp_cutG (K := K) (i := 1) (lo := some 1) (hi := none) (tl := tPart (tC (.int 1))) (th := tNoPart) rfl hd3 ff (fun H1 Q q => ⟨1, rfl, q⟩) (fun H1 Q q => q)) fun d h => h.fit.more (by omega))
            (evpan (evp_imp (evp_cat0 (K := K) (evp_var (D := Tu n) (i := 1) rfl hd3 ⟨ds, rfl, ff⟩) (evp_cutG (K := K) (i := 1) (lo := some (-1)) (hi := none) (tl := tPart (tUn (rU fun i => .int (-i)) (tC (.int 1)))) (th := tNoPart) rfl hd3 ff (fun H1 Q q => ⟨1, rfl, -1, rfl, q⟩) (fun H1 Q q => q)) (by omega)) fun d h => h.fit.more (by omega))
            (evpan (evp_imp (evp_rev (K := K) (i := 1) rfl hd3 ff) fun d h => h.fit.more (by omega))
            (evpan (evp_tup' (m := 2 * n + 8) (evpa_t (n := n) (evp_var (i := 1) rfl hd3 hf) (evpa_nil Fits.nil) (by decide)) (by omega) (by omega))
            (evpan (evp_imp (evp_cat0 (K := K) (evp_var (D := Tu n) (i := 1) rfl hd3 ⟨ds, rfl, ff⟩) (evp_tup (evpa_t (evp_non fit_non) (evpa_nil Fits.nil) (by decide)) (by decide)) (by omega)) fun d h => h.fit.more (by omega))
            evpan_nil (by decide)) (by decide)) (by decide)) (by decide)) (by decide)) (by decide)) (by decide)) (by decide)
          refine qp_asg (hch H3 (c + 0 + (0 + 0)) (Xp.refl _ _) (P2.up e3) (by omega) (by omega) _ fun l4 vs4 ds4 H4 x4 P4 nl4 hl4 hds4 hL4 => ?_)
          have hl24 := x4 _ _ nl2 hl3
          have hds24 := hds3.xp x4
          have hs5 := evl_cat (S := S) (σ := [some (.ref S.p), some (.ref a), some (.ref l2), some (.ref l4)]) (H := H4) (L := AllFit (2 * n + 8)) (A := 4) (B := 7 + 7) (evl_cut (K := K) (i := 2) (u := 4) rfl nl2 hl24 hds24 hL2.1 (by decide) (by omega))
            (evl_two (evl_var (i := 3) rfl nl4 hl4 hds4 hL4) (by decide) (by decide)) (by decide) (by decide) (by decide) (fun _ _ a b => a.app b)
          refine qp_asg (hs5 H4 _ (Xp.refl _ _) P4 (by omega) (by omega) _ fun l5 vs5 ds5 H5 x5 P5 nl5 hl5 hds5 hL5 => ?_)
          have hd5 := (hd3.xp x4).xp x5
          have cutR : EvP S 0 (tSl (rSlA K) (tVar 1) (tPart (tC (.int 1))) tNoPart) [some (.ref S.p), some (.ref a), some (.ref l5), some (.ref l4)] H5 (Tu n) := evp_cutG (i := 1) (lo := some 1) (hi := none) rfl hd5 ff (fun H1 Q q => ⟨1, rfl, q⟩) (fun H1 Q q => q)
          have kd : ∀ (z : Str), fits 1 z = true → EvP S 0 (tOp (rCatA K) (tTup (tCons (tC (.str z)) tNil)) (tSl (rSlA K) (tVar 1) (tPart (tC (.int 1))) tNoPart)) [some (.ref S.p), some (.ref a), some (.ref l5), some (.ref l4)] H5 (Fit (2 * n + 8)) := fun z hz =>
            evp_imp (evp_cat0 (K := K) (evp_tup (evpa_t (n := 1) (evp_str (fit_b hz)) (evpa_nil Fits.nil) (by decide)) (by decide)) cutR (by omega)) fun d h => h.fit.more (by omega)
          have hs6 := evl_cat (S := S) (σ := [some (.ref S.p), some (.ref a), some (.ref l5), some (.ref l4)]) (H := H5) (L := AllFit (2 * n + 8)) (A := 4 + (7 + 7)) (B := 3) (evl_var (i := 2) rfl nl5 hl5 hds5 hL5)
            (evl_lst (N := 3) (evpan (kd "repeat" (by decide +kernel)) (evpan (kd "choice" (by decide +kernel)) (evpan (kd "block" (by decide +kernel)) evpan_nil (by decide)) (by decide)) (by decide)) (by decide)) (by decide) (by decide) (by decide) (fun _ _ a b => a.app b)
          refine sp_asg (hs6 H5 _ (Xp.refl _ _) P5 (by omega) (by omega) _ fun l6 vs6 ds6 H6 x6 P6 nl6 hl6 hds6 hL6 => ?_)
          have hlen6 := hL6.2
          exact ⟨l6, vs6, ds6, _, rfl, ((((x12.trans (Xp.ex e3)).trans x4).trans x5).trans x6), P6.more (by omega), nl6, hl6, hds6, hL6.1, by omega, by omega⟩
      · have hd2 := hd.xp x12
        cases hd with
        | str _ =>
          refine s_if (et_test (ev_cb (ea_cons (ev_var rfl) (ea_cons ev_c ea_nil)) hd2.isiT)) (fun hb => by cases hb) (fun _ H3 e3 => ?_)
          refine s_when (et_test (ev_cb (ea_cons (ev_var rfl) (ea_cons ev_c ea_nil)) (hd2.up e3).isiS)) (fun _ H4 e4 => ?_) (fun hb => by cases hb)
          have tf := text_facts z hz
          rw [Bool.and_eq_true, Bool.and_eq_true, Bool.and_eq_true, Bool.and_eq_true, Bool.and_eq_true, Bool.and_eq_true, Bool.and_eq_true] at tf
          obtain ⟨⟨⟨⟨⟨⟨⟨t1, t2⟩, t3⟩, t4⟩, t5⟩, t6⟩, t7⟩, t8⟩ := tf
          have z1 := of_decide_eq_true t7
          have z8 := of_decide_eq_true t8
          have hl4 := e4 _ _ (e3 _ _ hl2)
          have hds4 := (hds2.up e3).up e4
          have fm : ∀ {m : Nat} {y : Str}, fits m y = true → m ≤ 8 → Fit (2 * n + 8) (.str y) := fun h hm => (fit_b h).more (by omega)
          have hch := evl_lst (S := S) (σ := [some (.ref S.p), some (.str z), some (.ref l2), none]) (H := H4) (N := 6) (L := AllFit (2 * n + 8))
            (evpan (te := tOp (fun x y H Q => ∃ i j : Str, x = .str i ∧ y = .str j ∧ i.length + j.length ≤ sizeLine ∧ Q (.str (i ++ j)) H) (tVar 1) (tC (.str "x"))) (fun H1 c x P c0 c1 Q q => ⟨.str z, rfl, z, "x", rfl, rfl, sz_of (by show z.length + 1 ≤ 100000; omega), q _ _ H1 (Xp.refl _ _) (P.more (by omega)) (.str _) (fm t2 (by decide))⟩)
            (evpan (te := tSl rSlS (tVar 1) tNoPart (tPart (tUn (rU fun i => .int (-i)) (tC (.int 1))))) (fun H1 c x P c0 c1 Q q => ⟨.str z, rfl, 1, rfl, -1, rfl, z, rfl, sz_of (by omega), q _ _ H1 (Xp.refl _ _) (P.more (by omega)) (.str _) (fm t3 (by decide))⟩)
            (evpan (te := tM0 (fun x xs H Q => ∃ a : Str, x = .str a ∧ xs = [] ∧ a.length ≤ 5592405 ∧ Q (.str (Txt.upper a)) H) (tVar 1)) (fun H1 c x P c0 c1 Q q => ⟨.str z, rfl, ⟨z, rfl⟩, z, rfl, rfl, by omega, q _ _ H1 (Xp.refl _ _) (P.more (by omega)) (.str _) (fm t4 (by decide))⟩)
            (evpan (te := tOp rMul8 (tVar 1) (tC (.int 8))) (fun H1 c x P c0 c1 Q q => ⟨.str z, rfl, z, rfl, rfl, z1, by omega, q _ _ H1 (Xp.refl _ _) (P.more (by omega)) (.str _) (fm t5 (by decide))⟩)
            (evpan (evp_tup' (m := 2 * n + 8) (evpa_t (n := 1) (evp_var (i := 1) rfl (.str z) (fit_b t1)) (evpa_nil Fits.nil) (by decide)) (by omega) (by omega))
            (evpan (te := tOp (fun x y H Q => ∃ i j : Str, x = .str i ∧ y = .str j ∧ i.length + j.length ≤ sizeLine ∧ Q (.str (i ++ j)) H) (tVar 1) (tC (.str "."))) (fun H1 c x P c0 c1 Q q => ⟨.str z, rfl, z, ".", rfl, rfl, sz_of (by show z.length + 1 ≤ 100000; omega), q _ _ H1 (Xp.refl _ _) (P.more (by omega)) (.str _) (fm t6 (by decide))⟩)
            evpan_nil (by decide)) (by decide)) (by decide)) (by decide)) (by decide)) (by decide)) (by decide)
          refine qp_asg (hch H4 (c + 0 + (0 + 0)) (Xp.refl _ _) ((P2.up e3).up e4) (by omega) (by omega) _ fun l5 vs5 ds5 H5 x5 P5 nl5 hl5 hds5 hL5 => ?_)
          have hl25 := x5 _ _ nl2 hl4
          have hds25 := hds4.xp x5
          have hs6 := evl_cat (S := S) (σ := [some (.ref S.p), some (.str z), some (.ref l2), some (.ref l5)]) (H := H5) (L := AllFit (2 * n + 8)) (A := 3 + (6 + 6)) (B := 3)
            (evl_cat (A := 3) (B := 6 + 6) (evl_cut (K := K) (i := 2) (u := 3) rfl nl2 hl25 hds25 hL2.1 (by decide) (by omega)) (evl_two (evl_var (i := 3) rfl nl5 hl5 hds5 hL5) (by decide) (by decide)) (by decide) (by decide) (by decide) (fun _ _ a b => a.app b))
            (evl_lst (N := 3) (evpan (fsN (n := 2) "token" n) (evpan (fsN (n := 2) "repeat" n) (evpan (fsN (n := 2) "loop" n) evpan_nil (by decide)) (by decide)) (by decide)) (by decide)) (by decide) (by decide) (by decide) (fun _ _ a b => a.app b)
          refine sp_asg (hs6 H5 _ (Xp.refl _ _) P5 (by omega) (by omega) _ fun l6 vs6 ds6 H6 x6 P6 nl6 hl6 hds6 hL6 => ?_)
          have hlen6 := hL6.2
          exact ⟨l6, vs6, ds6, _, rfl, ((((x12.trans (Xp.ex e3)).trans (Xp.ex e4)).trans x5).trans x6), P6.more (by omega), nl6, hl6, hds6, hL6.1, by omega, by omega⟩
    · rintro σ' H3 ⟨l, vs, ds, y, rfl, x3, P3, nl, hl, hds, hL, hl1, hl100⟩
      have hlen := hds.length
      refine ⟨.ref S.p, rfl, .ref l, rfl, S.p, l, c, vs, rfl, by omega, P3.1, nl, hl, by omega, by omega, fun u H4 hu x4 P4 => ?_⟩
      obtain ⟨e, he, hue⟩ := hds.mem hu
      exact q u e H4 (x3.trans x4) (P3.step x4 P4) (hue.xp x4) (hL e he)
end
end K02
namespace K02
open PySem PySem.Spec PyProof.Rows L2 Evl Es
abbrev nBent : List Str := ["_law_pot_here", "_law_thing", "_law_depth", "_law_at"]
theorem scBent : FnScope nBent ["_law_pot_here", "_law_thing", "_law_depth"] (defScope sBent) := ⟨rfl, rfl, rfl, by decide +kernel, rfl, by decide +kernel, by decide +kernel⟩
/-- an expression or a text inside of one -/
def TT (p : Addr) (H : Hp) (v : V) (d : PyData) : Prop := (∃ t : Tr, TrAt p H v t ∧ t.ok ∧ d = t.toD) ∨ ∃ z ∈ texts, v = .str z ∧ d = .str z
theorem TT.xp {p : Addr} {H H' : Hp} {v : V} {d : PyData} (h : TT p H v d) (e : Xp p H H') : TT p H' v d := by
  rcases h with ⟨t, a, b, c⟩ | h
  · exact .inl ⟨t, a.xp e, b, c⟩
  · exact .inr h
theorem TT.prt {S : Sx} {H : Hp} {v : V} {d : PyData} {c : Int} (h : TT S.p H v d) (P : PotS S H c) : Prt S H v d := by
  rcases h with ⟨t, a, b, rfl⟩ | ⟨z, hz, rfl, rfl⟩
  · refine ⟨a.dd P, .inl ?_⟩
    cases t with
    | leaf k n => exact ⟨_, rfl⟩
    | node k ps => exact ⟨_, rfl⟩
  · exact ⟨.str z, .inr ⟨z, hz, rfl⟩⟩
theorem toDs_get : ∀ {ts : List Tr} {i : Nat} {t : Tr}, ts[i]? = some t → (Tr.toDs ts)[i]? = some t.toD
  | x :: r, 0, _, h => by
    cases h
    rfl
  | x :: r, i + 1, _, h => toDs_get (ts := r) (i := i) h
theorem tt_items {S : Sx} {H : Hp} {v : V} {t : Tr} {c : Int} (P : PotS S H c) (h : TrAt S.p H v t) (ho : t.ok) : ∃ a xs ds, v = .ref a ∧ a ≠ S.p ∧ H a = some (.tup xs) ∧ t.toD = .tuple ds ∧ DdAll (some S) H xs ds ∧ xs ≠ [] ∧ ∀ (i : Nat) (u : V), xs[i]? = some u → ∃ d, ds[i]? = some d ∧ TT S.p H u d := by
  have tx : ∀ {k : Str}, k ∈ texts → TT S.p H (.str k) (.str k) := fun hk => .inr ⟨_, hk, rfl, rfl⟩
  cases h with
  | @leaf a k n na ha =>
    refine ⟨a, _, [.str k, .str n], rfl, na, ha, rfl, .cons (.str k) (.cons (.str n) .nil), by simp, fun i u hi => ?_⟩
    match i, hi with
    | 0, hi =>
      cases hi
      exact ⟨_, rfl, tx (List.mem_append_left _ (List.mem_append_left _ ho.1))⟩
    | 1, hi =>
      cases hi
      exact ⟨_, rfl, tx (List.mem_append_right _ ho.2)⟩
  | @node a k vs ps na ha hps =>
    refine ⟨a, _, .str k :: Tr.toDs ps, rfl, na, ha, rfl, .cons (.str k) (hps.dd P), by simp, fun i u hi => ?_⟩
    match i, hi with
    | 0, hi =>
      cases hi
      exact ⟨_, rfl, tx (List.mem_append_left _ (List.mem_append_right _ ho.1))⟩
    | i + 1, hi =>
      obtain ⟨t, ht, hu⟩ := hps.get (i := i) hi
      exact ⟨t.toD, toDs_get ht, .inl ⟨t, hu, oks_get ho.2.2 ht, rfl⟩⟩
def Sz (d : PyData) : Prop := d.showable = true ∧ d.leavesShort 30 = true ∧ d.bulk ≤ 600 ∧ d.depth ≤ 6
def Bt (b L : Nat) (d : PyData) : Prop := d.showable = true ∧ d.leavesShort 30 = true ∧ d.bulk ≤ 2 * b + 160 ∧ d.depth ≤ 170 + L
theorem split_at {ds : List PyData} {i : Nat} {x : PyData} (h : ds[i]? = some x) : ds = ds.take i ++ x :: ds.drop (i + 1) := by
  rw [← drop_get h, List.take_append_drop]
theorem sz_item {ds : List PyData} {i : Nat} {x : PyData} (h : Sz (.tuple ds)) (hi : ds[i]? = some x) : Sz x := by
  obtain ⟨a1, a2, a3, a4⟩ := h
  have hs := split_at hi
  obtain ⟨i1, i2, i3, i4⟩ := all_app (x :: ds.drop (i + 1)) (ds.take i)
  rw [← hs] at i1 i2 i3 i4
  have a1' : PyData.showableAll ds = true := a1
  have a2' : PyData.leavesShortAll 30 ds = true := a2
  have a3' : PyData.bulkAll ds ≤ 600 := a3
  have a4' : PyData.depthAll ds + 1 ≤ 6 := a4
  rw [i1, Bool.and_eq_true] at a1'
  rw [i2, Bool.and_eq_true] at a2'
  have b1 : (x.showable && PyData.showableAll (ds.drop (i + 1))) = true := a1'.2
  have b2 : (x.leavesShort 30 && PyData.leavesShortAll 30 (ds.drop (i + 1))) = true := a2'.2
  have b3 : PyData.bulkAll (x :: ds.drop (i + 1)) = x.bulk + 1 + PyData.bulkAll (ds.drop (i + 1)) := rfl
  have b4 : PyData.depthAll (x :: ds.drop (i + 1)) = max x.depth (PyData.depthAll (ds.drop (i + 1))) := rfl
  rw [Bool.and_eq_true] at b1 b2
  exact ⟨b1.1, b2.1, by omega, by omega⟩
theorem mix {ds : List PyData} {i L : Nat} {x e : PyData} (h : Sz (.tuple ds)) (hi : ds[i]? = some x) (he : Bt x.bulk L e) : Bt (PyData.tuple ds).bulk (L + 1) (.tuple (ds.take i ++ [e] ++ ds.drop (i + 1))) := by
  obtain ⟨a1, a2, a3, a4⟩ := h
  obtain ⟨e1, e2, e3, e4⟩ := he
  have hs := split_at hi
  obtain ⟨i1, i2, i3, i4⟩ := all_app (x :: ds.drop (i + 1)) (ds.take i)
  rw [← hs] at i1 i2 i3 i4
  obtain ⟨j1, j2, j3, j4⟩ := all_app (e :: ds.drop (i + 1)) (ds.take i)
  have a1' : PyData.showableAll ds = true := a1
  have a2' : PyData.leavesShortAll 30 ds = true := a2
  have a4' : PyData.depthAll ds + 1 ≤ 6 := a4
  rw [i1, Bool.and_eq_true] at a1'
  rw [i2, Bool.and_eq_true] at a2'
  have b1 : (x.showable && PyData.showableAll (ds.drop (i + 1))) = true := a1'.2
  have b2 : (x.leavesShort 30 && PyData.leavesShortAll 30 (ds.drop (i + 1))) = true := a2'.2
  have b3 : PyData.bulkAll (x :: ds.drop (i + 1)) = x.bulk + 1 + PyData.bulkAll (ds.drop (i + 1)) := rfl
  have b4 : PyData.depthAll (x :: ds.drop (i + 1)) = max x.depth (PyData.depthAll (ds.drop (i + 1))) := rfl
  have c3 : PyData.bulkAll (e :: ds.drop (i + 1)) = e.bulk + 1 + PyData.bulkAll (ds.drop (i + 1)) := rfl
  have c4 : PyData.depthAll (e :: ds.drop (i + 1)) = max e.depth (PyData.depthAll (ds.drop (i + 1))) := rfl
  rw [Bool.and_eq_true] at b1 b2
  have el : ds.take i ++ [e] ++ ds.drop (i + 1) = ds.take i ++ e :: ds.drop (i + 1) := by
    rw [List.append_assoc]
    rfl
  rw [el]
  refine ⟨?_, ?_, ?_, ?_⟩
  · show PyData.showableAll (ds.take i ++ e :: ds.drop (i + 1)) = true
    rw [j1, a1'.1]
    show (true && (e.showable && PyData.showableAll (ds.drop (i + 1)))) = true
    rw [e1, b1.2]
    rfl
  · show PyData.leavesShortAll 30 (ds.take i ++ e :: ds.drop (i + 1)) = true
    rw [j2, a2'.1]
    show (true && (e.leavesShort 30 && PyData.leavesShortAll 30 (ds.drop (i + 1)))) = true
    rw [e2, b2.2]
    rfl
  · show PyData.bulkAll (ds.take i ++ e :: ds.drop (i + 1)) ≤ 2 * PyData.bulkAll ds + 160
    omega
  · show PyData.depthAll (ds.take i ++ e :: ds.drop (i + 1)) + 1 ≤ 170 + (L + 1)
    omega
theorem sz_fit {d : PyData} (h : Sz d) : Fit (d.bulk / 8 + 6) d := ⟨h.1, h.2.1, by omega, by have := h.2.2.2; omega⟩
theorem bt_of {d e : PyData} {L : Nat} (h : Sz d) (f : Fit (2 * (d.bulk / 8 + 6) + 8) e) : Bt d.bulk L e := by
  have h3 := h.2.2.1
  obtain ⟨f1, f2, f3, f4⟩ := f
  exact ⟨f1, f2, by omega, by omega⟩
def spBent (D : Nat) : Sp := fun vs H Q _ => ∃ (S : Sx) (v : V) (d : PyData) (L : Nat) (c : Int), vs = [.ref S.p, v, .int (L : Int)] ∧ L < D ∧ TT S.p H v d ∧ Sz d ∧ 0 ≤ c ∧ c + 2 * L + 2 ≤ 90000 ∧ PotS S H c ∧
  ∀ u e H', Xp S.p H H' → PotS S H' (c + 2 * L + 2) → Dd (some S) H' u e → Bt d.bulk L e → Q u H'
section
variable {K : PySem.W.Frag} {S : Sx} {H : Hp} {c : Int}
theorem cat_dd {a b : Addr} {ds es : List PyData} {Q : VK} (ha : Dd (some S) H (.ref a) (.tuple ds)) (hb : Dd (some S) H (.ref b) (.tuple es)) (P : PotS S H c) (hz : ds.length + es.length ≤ 10000)
    (q : ∀ r H', Xp S.p H H' → PotS S H' c → Dd (some S) H' (.ref r) (.tuple (ds ++ es)) → Q (.ref r) H') : rCatA K (.ref a) (.ref b) H Q := by
  have ha' := ha
  have hb' := hb
  cases ha with
  | @tup _ xs _ na hA hxs =>
    cases hb with
    | @tup _ ys _ nb hB hys =>
      have m1 := hxs.length
      have m2 := hys.length
      refine ⟨a, b, xs, ys, rfl, rfl, st_of hA, st_of hB, sz_of (by omega), fun z => ?_, fun _ z => ?_, fun _ _ t nt => ?_⟩
      · subst z
        cases hxs
        exact q b H (Xp.refl _ _) P hb'
      · subst z
        cases hys
        rw [List.append_nil] at q
        exact q a H (Xp.refl _ _) P ha'
      · have e := Ex.new (o := .tup (xs ++ ys)) nt
        exact q t _ (Xp.ex e) (P.up e) (.tup (P.sn nt) upd_same ((hxs.append hys).up e))
theorem cut_dd {a : Addr} {ds : List PyData} {lo hi : Option Int} {i j : Nat} {Q : VK} (ha : Dd (some S) H (.ref a) (.tuple ds)) (P : PotS S H c) (hi' : HT.sIx ds.length 0 lo = i) (hj : HT.sIx ds.length ds.length hi = j)
    (q : ∀ r H', Xp S.p H H' → PotS S H' c → Dd (some S) H' (.ref r) (.tuple ((ds.drop i).take (j - i))) → Q (.ref r) H') : rSlA K (.ref a) lo hi H Q := by
  have ha' := ha
  cases ha with
  | @tup _ xs _ na hA hxs =>
    have m1 := hxs.length
    refine ⟨a, xs, rfl, st_of hA, fun z => ?_, fun _ t nt => ?_⟩
    · rw [m1, hi', hj] at z
      rw [z.1, z.2, List.drop_zero, Nat.sub_zero, List.take_length] at q
      exact q a H (Xp.refl _ _) P ha'
    · have e := Ex.new (o := .tup (cutV xs lo hi)) nt
      have hc : DdAll (some S) H (cutV xs lo hi) ((ds.drop i).take (j - i)) := by
        unfold cutV
        rw [m1, hi', hj]
        exact (hxs.drop _).take _
      exact q t _ (Xp.ex e) (P.up e) (.tup (P.sn nt) upd_same (hc.up e))
end
end K02
namespace K02
open PySem PySem.Spec PyProof.Rows L2 Evl Es
theorem or_ev {t u : L2.TT} {σ : L2.St} {H : Hp} {a : Bool} {Q : Bool → Hp → Prop} (h1 : EvT t σ H a) (k1 : a = true → ∀ H1, Ex H H1 → Q true H1) (k2 : a = false → ∀ H1, Ex H H1 → u σ H1 Q) : tOr t u σ H Q := h1 H (Ex.refl _) _ fun H1 e => by
  cases a with
  | true => exact iteT (k1 rfl H1 e)
  | false => exact iteF (k2 rfl H1 e)
theorem if_of {c : L2.TT} {t tz : TS} {D : Ends} {σ : L2.St} {H : Hp} (h : c σ H fun b H1 => if b = true then t { D with nx := tz D } σ H1 else tz D σ H1) : tSeq (tIfS c t tNext) tz D σ H := h
section
variable {P : Program} {w : World} {K : PySem.W.Frag} {mg : Str → Option Value} {base : Heap}
theorem ok_bent {f fT fO : Addr} {fd fdT fdO : FuncData} (F : Fun K "_law_bent" "_law_bent" sBent f fd) (b : Binds K fd ["_law_pot_here", "_law_thing", "_law_depth"] []) (g : mg "_law_bent" = some (.ref f)) (FT : Fun K "_law_take" "_law_take" sTake fT fdT) (bT : Binds K fdT ["_law_pot_here", "_law_size"] []) (gT : mg "_law_take" = some (.ref fT))
    (kO : PySem.W.keepIn K (.ref fO) = true) (GO : ∀ k, FnOk P w K mg base CX0 (k + 3) fO fdO ["_law_pot_here", "_law_part"] spOdd) (bO : Binds K fdO ["_law_pot_here", "_law_part"] []) (gO : mg "_law_odd" = some (.ref fO)) (ml : mg "len" = none) (mi : mg "isinstance" = none) (mt : mg "tuple" = none) :
    ∀ D : Nat, FnOk P w K mg base CX0 (D + 3) f fd ["_law_pot_here", "_law_thing", "_law_depth"] (spBent D) := by
  intro D
  induction D with
  | zero => exact ⟨fun vs H Q E ⟨_, _, _, _, _, _, h, _⟩ => absurd h (Nat.not_lt_zero _), fun _ _ _ _ _ _ _ _ _ _ _ _ _ ⟨_, _, _, _, _, _, h, _⟩ => absurd h (Nat.not_lt_zero _)⟩
  | succ D ih =>
    have G1 : FnOk P w K mg base CX0 (D + 3) fT fdT ["_law_pot_here", "_law_size"] spTake := ok_take FT
    refine F.ok scBent (fun vs H Q E h => ?_) (fun cdv A outer s H vs Q E hr h => ?_)
    · obtain ⟨S, v, d, L, c, rfl, _⟩ := h
      rfl
    · obtain ⟨S, v, d, L, c, rfl, hLD, ht, hs, hc0, hc1, hP, q⟩ := h
      refine ⟨_, pss_cons (ps_if (PW.pt (pw_or (pt_not (pt_val (pe_callB call_isi (by rfl) mi boot_isinstance (pa_cons (pv 1) (pa_cons (pe_bltn (v := .ty "tuple") (by rfl) mt (by decide +kernel) rfl) pa_nil)))))
          (pw_or (pt_cmpR (op_eqT0 hr.units) (pv 1) (pe_tup pa_nil) (nomark _)) (pw_or (pt_cmpR op_eq (pv 2) pe_int (nomark _)) (pw_or1 (pt_cmpR op_eq (pe_call G1 hr (by rfl) gT FT.kp bT .nil pass0 (pa_cons (pv 0) (pa_cons pe_int pa_nil))) pe_int (nomark _)))))))
          (pss_one (ps_ret (pe_call (GO D) hr (by rfl) gO kO bO .nil pass0 (pa_cons (pv 0) (pa_cons (pv 1) pa_nil))))) pss_nil)
        (pss_cons (ps_set (i := 3) scBent.nd rfl (.inl rfl) (pe_call G1 hr (by rfl) gT FT.kp bT .nil pass0 (pa_cons (pv 0) (pa_cons (pe_callB call_len_seq (by rfl) ml PySem.boot_len (pa_cons (pv 1) pa_nil)) pa_nil))))
        (pss_one (ps_ret (pe_op op_catA (pe_op op_catA (pe_slice sl_tupA (pv 1) po_none (po_some (pv 3))) (pe_tup (pa_cons (pe_call ih hr (by rfl) g F.kp b .nil pass0 (pa_cons (pv 0) (pa_cons (pe_ix ix_tup (pv 1) (pv 3) (fun _ _ => rfl)) (pa_cons (pe_op op_sub (pv 2) pe_int) pa_nil)))) pa_nil)))
          (pe_slice sl_tupA (pv 1) (po_some (pe_op op_add (pv 3) pe_int)) po_none))))), ?_⟩
      have hb8 := hs.2.2.1
      have odd : ∀ (c1 : Int) (H1 : Hp), Xp S.p H H1 → PotS S H1 c1 → c ≤ c1 → c1 + 1 ≤ c + 2 * L + 2 → tCall spOdd [] E0 (tCons (tVar 0) (tCons (tVar 1) tNil)) [some (.ref S.p), some v, some (.int (L : Int)), none] H1 Q := fun c1 H1 x1 P1 h0 h1 =>
        ⟨.ref S.p, rfl, v, rfl, S, v, d, d.bulk / 8 + 6, c1, rfl, (ht.xp x1).prt P1, sz_fit hs, by omega, by omega, by omega, P1, fun u e H2 x2 P2 hu he => q u e H2 (x1.trans x2) (P2.more (by omega)) hu (bt_of hs he)⟩
      rcases id ht with ⟨t, htr, hok, rfl⟩ | ⟨z, hz, rfl, rfl⟩
      · obtain ⟨a, xs, ds, rfl, na, ha, hds, hdd, hne, hit⟩ := tt_items hP htr hok
        rw [hds] at hs q hb8 ht
        have hA : Dd (some S) H (.ref a) (.tuple ds) := .tup (hP.tn na ha) ha hdd
        have ln := hdd.length
        refine if_of (or_ev (et_not (et_test (ev_cb (ea_cons (ev_var rfl) (ea_cons ev_c ea_nil)) hA.isiT))) (fun hb => by cases hb) (fun _ H1 e1 => ?_))
        refine or_ev (a := false) (et_is (et_test (b := decide (xs = [])) (fun H2 e2 Q q => ⟨.ref a, rfl, sz_of (by decide), fun b nb => ⟨a, b, xs, rfl, rfl, st_of ((Ex.new nb) _ _ (e2 _ _ (e1 _ _ ha))), st_of upd_same, q _ (Ex.new nb)⟩⟩)) (decide_eq_false hne)) (fun hb => by cases hb) (fun _ H2 e2 => ?_)
        refine or_ev (et_test (ev_op (ev_var rfl) ev_c (rv_eq rfl))) (fun _ H3 e3 => iteT (odd c H3 (Xp.ex ((e1.trans e2).trans e3)) (hP.up ((e1.trans e2).trans e3)) (by omega) (by omega))) (fun hL H3 e3 => ?_)
        have e13 := (e1.trans e2).trans e3
        obtain ⟨L, rfl⟩ : ∃ M, L = M + 1 := by
          cases L with
          | zero => cases hL
          | succ M => exact ⟨M, rfl⟩
        refine ⟨.ref S.p, rfl, S.p, 6, c, rfl, by decide, by decide, by omega, (hP.up e13).1, fun r H4 r0 r1 x4 P4' => ?_⟩
        have P4 := (hP.up e13).step x4 P4'
        refine ⟨rfl, _, rfl, ite2 (fun hb => ?_) (fun hb => ?_)⟩
        · exact odd (c + 1) H4 ((Xp.ex e13).trans x4) P4 (by omega) (by omega)
        have x14 := (Xp.ex e13).trans x4
        have ha4 := x14 _ _ na ha
        have hlen : 1 ≤ xs.length := by
          cases xs with
          | nil => exact absurd rfl hne
          | cons _ _ => exact Nat.succ_le_succ (Nat.zero_le _)
        have hlen2 : xs.length ≤ 1000 := by
          have h1 := (fit_fits (sz_fit hs)).length
          omega
        -- the place
        refine ⟨.ref S.p, rfl, .ref a, rfl, a, xs, rfl, .inr (st_of ha4), S.p, _, c + 1, rfl, by omega, by omega, by omega, P4.1, fun r2 H5 s0 s1 x5 P5' => ?_⟩
        have P5 := P4.step x5 P5'
        have x15 := x14.trans x5
        have hA5 := hA.xp x15
        have ha5 := x15 _ _ na ha
        have hlt : r2.toNat < xs.length := by omega
        have hxu : xs[r2.toNat]? = some xs[r2.toNat] := List.getElem?_eq_getElem hlt
        obtain ⟨d', hd', htt⟩ := hit r2.toNat _ hxu
        have er2 : ((r2.toNat : Nat) : Int) = r2 := Int.toNat_of_nonneg s0
        have hat : atI xs r2 = some xs[r2.toNat] := by
          have := atI_nat (xs := xs) (j := r2.toNat) hxu
          rw [er2] at this
          exact this
        have eL : (((L + 1 : Nat) : Int) - 1) = (L : Int) := by omega
        have six : ∀ m : Nat, m ≤ ds.length → ∀ z0 : Nat, HT.sIx ds.length z0 (some ((m : Nat) : Int)) = m := fun m hm z0 => by
          rw [HT.sIx_nat]
          omega
        have ls : ds.length ≤ 1000 := by omega
        refine ⟨.ref a, rfl, .int r2, rfl, r2, rfl, cut_dd (lo := none) (hi := some r2) (i := 0) (j := r2.toNat) hA5 P5 rfl (by rw [← er2, Int.toNat_natCast]; exact six _ (by omega) _) (fun t1 H6 x6 P6 ht1 => ?_)⟩
        rw [List.drop_zero, Nat.sub_zero] at ht1
        refine ⟨.ref S.p, rfl, .ref a, rfl, .int r2, rfl, a, xs, r2, xs[r2.toNat], rfl, rfl, st_of (x6 _ _ na ha5), hat, .int ((L + 1 : Nat) : Int), rfl, _, 1, rfl, rfl, S, _, d', L, c + 1 + 1, by show [V.ref S.p, xs[r2.toNat], V.int (((L + 1 : Nat) : Int) - 1)] = _; rw [eL], by omega, (htt.xp x15).xp x6, sz_item hs hd', by omega, by omega, P6, fun u e H7 x7 P7 hu he => ?_⟩
        refine ⟨sz_of (by show 1 ≤ 100000; decide), fun t2 nt2 => ?_⟩
        have e8 := Ex.new (o := .tup [u]) nt2
        have ht2 : Dd (some S) (upd H7 t2 (.tup [u])) (.ref t2) (.tuple [e]) := .tup (P7.sn nt2) upd_same (.cons (hu.up e8) .nil)
        refine cat_dd ((ht1.xp x7).up e8) ht2 (P7.up e8) (by rw [List.length_take, List.length_singleton]; omega) (fun t3 H9 x9 P9 ht3 => ?_)
        have x79 := (x7.trans (Xp.ex e8)).trans x9
        have hA9 := (hA5.xp x6).xp x79
        refine ⟨.ref a, rfl, .int r2, rfl, r2, 1, rfl, rfl, r2 + 1, rfl, ?_⟩
        show rSlA K (V.ref a) (some (r2 + 1)) none H9 (fun y H2 => rCatA K (V.ref t3) y H2 Q)
        refine cut_dd (K := K) (lo := some (r2 + 1)) (hi := none) (i := r2.toNat + 1) (j := ds.length) hA9 P9 (by rw [show r2 + 1 = ((r2.toNat + 1 : Nat) : Int) by omega]; exact six _ (by omega) _) rfl (fun t4 H10 x10 P10 ht4 => ?_)
        rw [List.take_of_length_le (by rw [List.length_drop]; omega)] at ht4
        refine cat_dd (ht3.xp x10) ht4 P10 (by rw [List.length_append, List.length_take, List.length_singleton, List.length_drop]; omega) (fun t5 H11 x11 P11 ht5 => ?_)
        exact q _ _ H11 ((((x15.trans x6).trans x79).trans x10).trans x11) (P11.more (by omega)) ht5 (mix hs hd' he)
      · refine if_of (or_ev (et_not (et_test (ev_cb (ea_cons (ev_var rfl) (ea_cons ev_c ea_nil)) (ht.prt hP).1.isiT))) (fun _ H1 e1 => iteT (odd c H1 (Xp.ex e1) (hP.up e1) (by omega) (by omega))) (fun hb => by cases hb))
end
end K02
namespace K02
open PySem PySem.Spec PyProof.Rows L2 Evl Es
/-- what stands at the top -/
structure Top (K : PySem.W.Frag) (mg : Str → Option Value) (aL fTok fFit fCnt fIsE fPot fTake fPick fExpr fOdd fBent fLTok fLCnt fLIsE fNest fHand fAsked fRight : Addr) (dTok dFit dCnt dIsE dPot dTake dPick dExpr dOdd dBent dLTok dLCnt dLIsE dNest dHand dAsked dRight : FuncData) : Prop where
  Tok : Fun K "is_token" "is_token" sTok fTok dTok
  Fit : Fun K "has_fitting_parts" "has_fitting_parts" sFit fFit dFit
  Cnt : Fun K "count_leaves" "count_leaves" sCnt fCnt dCnt
  IsE : Fun K "is_expression" "is_expression" sIsE fIsE dIsE
  Pot : Fun K "_law_pot" "_law_pot" sPot fPot dPot
  Take : Fun K "_law_take" "_law_take" sTake fTake dTake
  Pick : Fun K "_law_pick" "_law_pick" sPick fPick dPick
  Expr : Fun K "_law_expression" "_law_expression" sExpr fExpr dExpr
  Odd : Fun K "_law_odd" "_law_odd" sOdd fOdd dOdd
  Bent : Fun K "_law_bent" "_law_bent" sBent fBent dBent
  LTok : Fun K "_law_is_token" "_law_is_token" sLTok fLTok dLTok
  LCnt : Fun K "_law_leaf_count" "_law_leaf_count" sLCnt fLCnt dLCnt
  LIsE : Fun K "_law_is_expression" "_law_is_expression" sLIsE fLIsE dLIsE
  Nest : Fun K "_law_nested" "_law_nested" sNest fNest dNest
  Hand : Fun K "_law_by_hand" "_law_by_hand" sHand fHand dHand
  Asked : Fun K "_law_asked" "_law_asked" sAsked fAsked dAsked
  Right : Fun K "_law_right" "_law_right" sRight fRight dRight
  gTok : mg "is_token" = some (.ref fTok)
  gFit : mg "has_fitting_parts" = some (.ref fFit)
  gCnt : mg "count_leaves" = some (.ref fCnt)
  gIsE : mg "is_expression" = some (.ref fIsE)
  gPot : mg "_law_pot" = some (.ref fPot)
  gTake : mg "_law_take" = some (.ref fTake)
  gPick : mg "_law_pick" = some (.ref fPick)
  gExpr : mg "_law_expression" = some (.ref fExpr)
  gOdd : mg "_law_odd" = some (.ref fOdd)
  gBent : mg "_law_bent" = some (.ref fBent)
  gLTok : mg "_law_is_token" = some (.ref fLTok)
  gLCnt : mg "_law_leaf_count" = some (.ref fLCnt)
  gLIsE : mg "_law_is_expression" = some (.ref fLIsE)
  gNest : mg "_law_nested" = some (.ref fNest)
  gHand : mg "_law_by_hand" = some (.ref fHand)
  gAsked : mg "_law_asked" = some (.ref fAsked)
  gRight : mg "_law_right" = some (.ref fRight)
  cL : ∃ t, mg "LETTERS" = some (.str abc t)
  cM : ∃ t, mg "MOST_LETTERS" = some (.int 8 t)
  cV : ∃ t, mg "MOST_LEAVES" = some (.int 16 t)
  cN : ∃ t, mg "MOST_LEVELS" = some (.int 8 t)
  cP : ∃ t, mg "MOST_PARTS" = some (.int 6 t)
  kinds : ∀ H, SqT K H aL [.str "token", .str "block"]
  gKinds : mg "LEAF_KINDS" = some (.ref aL)
  zisinstance : mg "isinstance" = none
  zstr : mg "str" = none
  zlen : mg "len" = none
  zall : mg "all" = none
  zany : mg "any" = none
  zabs : mg "abs" = none
  zrange : mg "range" = none
  zmax : mg "max" = none
  zmin : mg "min" = none
  zrepr : mg "repr" = none
  ztuple : mg "tuple" = none
  zlist : mg "list" = none
  zsum : mg "sum" = none
section
variable {P : Program} {w : World} {K : PySem.W.Frag} {mg : Str → Option Value} {base : Heap} {aL fTok fFit fCnt fIsE fPot fTake fPick fExpr fOdd fBent fLTok fLCnt fLIsE fNest fHand fAsked fRight : Addr} {dTok dFit dCnt dIsE dPot dTake dPick dExpr dOdd dBent dLTok dLCnt dLIsE dNest dHand dAsked dRight : FuncData}
theorem q_par {ta : TA} {tz : TS} {D : Ends} {σ : L2.St} {H : Hp} {i j : Nat} {v w : V} (h : EvA ta σ H [v, w]) (k : ∀ H1, Ex H H1 → tz D ((σ.set i (some v)).set j (some w)) H1) : tSeq (tPar i j ta) tz D σ H := h H (Ex.refl _) _ fun H1 e => ⟨v, w, rfl, k H1 e⟩
theorem room200 {k : Nat} {A : Around} (r : Room k A) : A.units + 200 < cLine := by
  have := r.un
  omega
theorem kb_isE {f : Addr} {fd : FuncData} (F : Fun K "is_expression" "is_expression" sIsE f fd) : KBinds K fd ["value"] ["value"] kwU kwV := by
  obtain ⟨oc, od, kV, dc, pm, an, cd, ct, sl, rfl, lk, hcd⟩ := F.ex
  refine ⟨fun s us ws _ hl => ?_, kw_rel⟩
  match us, ws, hl with
  | [], [_], _ => exact .of_eq rfl
theorem rc_reprX {p : Option Sx} {H : Hp} {v : V} {d : PyData} (h : Dd p H v d) (f : Fit 190 d) : RC rReprX [v] H (.str d.shown) := fun H1 e _ q => ⟨v, d, p, rfl, h.up e, f, q H1 (Ex.refl _)⟩
theorem isEV {p : Option Sx} {H : Hp} {v : V} {d : PyData} (h : Dd p H v d) (f : Fit 190 d) : SpV spIsE [v] H (.bl (okE d)) := fun H1 e Q q E => ⟨p, v, d, rfl, h.up e, f, fun H2 e2 => q H2 e2⟩
theorem g_isE (T : Top K mg aL fTok fFit fCnt fIsE fPot fTake fPick fExpr fOdd fBent fLTok fLCnt fLIsE fNest fHand fAsked fRight dTok dFit dCnt dIsE dPot dTake dPick dExpr dOdd dBent dLTok dLCnt dLIsE dNest dHand dAsked dRight) : FnOk P w K mg base CX0 11 fIsE dIsE ["value"] spIsE := by
  obtain ⟨tL, mL⟩ := T.cL
  obtain ⟨tM, mM⟩ := T.cM
  obtain ⟨tV, mV⟩ := T.cV
  obtain ⟨tN, mN⟩ := T.cN
  obtain ⟨tP, mP⟩ := T.cP
  have bT : Binds K dTok ["value"] [] := T.Tok.binds fun _ _ _ _ _ _ us hl => match us, hl with | [_], _ => rfl
  have bF : Binds K dFit ["value"] [] := T.Fit.binds fun _ _ _ _ _ _ us hl => match us, hl with | [_], _ => rfl
  have bC : Binds K dCnt ["value", "levels"] [] := T.Cnt.binds fun _ _ _ _ _ _ us hl => match us, hl with | [_, _], _ => rfl
  exact ok_isE T.IsE (ok_cnt T.Cnt bC T.gCnt T.Tok.kp (fun k => ok_tok T.Tok T.zisinstance T.zstr T.zlen T.zall mL mM) bT T.gTok T.Fit.kp (fun k => ok_fit T.Fit T.zlen mP) bF T.gFit T.zisinstance T.ztuple T.zlen T.gKinds T.kinds mV 9) bC T.gCnt T.Cnt.kp mN mV
theorem g_lisE (T : Top K mg aL fTok fFit fCnt fIsE fPot fTake fPick fExpr fOdd fBent fLTok fLCnt fLIsE fNest fHand fAsked fRight dTok dFit dCnt dIsE dPot dTake dPick dExpr dOdd dBent dLTok dLCnt dLIsE dNest dHand dAsked dRight) : FnOk P w K mg base CX0 11 fLIsE dLIsE ["_law_thing"] spIsE := by
  have bT : Binds K dLTok ["_law_thing"] [] := T.LTok.binds fun _ _ _ _ _ _ us hl => match us, hl with | [_], _ => rfl
  have bC : Binds K dLCnt ["_law_thing", "_law_depth"] [] := T.LCnt.binds fun _ _ _ _ _ _ us hl => match us, hl with | [_, _], _ => rfl
  exact ok_lisE T.LIsE (ok_lcnt T.LCnt bC T.gLCnt T.LTok.kp (fun k => ok_ltok T.LTok T.zisinstance T.zstr T.zlen T.zany) bT T.gLTok T.zisinstance T.ztuple T.zlen T.zstr T.zsum 9) bC T.gLCnt T.LCnt.kp
abbrev nAsked : List Str := ["_law_thing", "_law_kept", "_law_due"]
theorem scAsked : FnScope nAsked ["_law_thing"] (defScope sAsked) := ⟨rfl, rfl, rfl, by decide +kernel, rfl, by decide +kernel, by decide +kernel⟩
def spAsked : Sp := fun vs H Q _ => ∃ (p : Option Sx) (v : V) (d : PyData), vs = [v] ∧ Dd p H v d ∧ Fit 190 d ∧ RetV (.bl true) H Q
theorem ok_asked (T : Top K mg aL fTok fFit fCnt fIsE fPot fTake fPick fExpr fOdd fBent fLTok fLCnt fLIsE fNest fHand fAsked fRight dTok dFit dCnt dIsE dPot dTake dPick dExpr dOdd dBent dLTok dLCnt dLIsE dNest dHand dAsked dRight) : GnOk P w K mg base 12 fAsked dAsked ["_law_thing"] spAsked := by
  have G1 := g_isE (P := P) (w := w) (base := base) T
  have G2 := g_lisE (P := P) (w := w) (base := base) T
  have b1 : Binds K dIsE ["value"] [] := T.IsE.binds fun _ _ _ _ _ _ us hl => match us, hl with | [_], _ => rfl
  have b2 : Binds K dLIsE ["_law_thing"] [] := T.LIsE.binds fun _ _ _ _ _ _ us hl => match us, hl with | [_], _ => rfl
  refine gn_of (N := nAsked) T.Asked scAsked (fun vs H Q E h => ?_) (fun cd A out s H vs Q E hg hr h => ?_)
  · obtain ⟨p, v, d, rfl, _⟩ := h
    rfl
  · obtain ⟨p, v, d, rfl, hd, hf, q⟩ := h
    refine ⟨_, pss_cons (ps_par rfl scAsked.nd rfl rfl (by decide) rfl rfl (i := 1) (j := 2) (pa_cons (pe_callB (cr_reprX hg (room200 hr)) (by rfl) T.zrepr boot_repr (pa_cons (pv 0) pa_nil))
        (pa_cons (pe_callB (cr_reprX hg (room200 hr)) (by rfl) T.zrepr boot_repr (pa_cons (pe_call G2 hr (by rfl) T.gLIsE T.LIsE.kp b2 .nil pass0 (pa_cons (pv 0) pa_nil)) pa_nil)) pa_nil)) (by rfl))
      (pss_one (ps_ret (pe_and (pe_cmpR op_eq (pe_callB (cr_reprX hg (room200 hr)) (by rfl) T.zrepr boot_repr (pa_cons (pe_call G1 hr (by rfl) T.gIsE T.IsE.kp b1 .nil pass0 (pa_cons (pv 0) pa_nil)) pa_nil)) (pv 2) (nomark _))
        (pe_and (pe_cmpR op_eq (pe_callB (cr_reprX hg (room200 hr)) (by rfl) T.zrepr boot_repr (pa_cons (pe_callK0 G1 hr (by rfl) T.gIsE T.IsE.kp (kb_isE T.IsE) (pk_cons (pv 0) pk_nil)) pa_nil)) (pv 2) (nomark _))
        (pe_one (pe_cmpR op_eq (pe_callB (cr_reprX hg (room200 hr)) (by rfl) T.zrepr boot_repr (pa_cons (pv 0) pa_nil)) (pv 1) (nomark _))))))), ?_⟩
    have db : ∀ {H1 : Hp}, Dd p H1 (.bl (okE d)) (.bool (okE d)) := .bl _
    have fb : Fit 190 (.bool (okE d)) := (fit_bl _).more (by decide)
    refine q_par (ea_cons (ev_cb (ea_cons (ev_var rfl) ea_nil) (rc_reprX hd hf)) (ea_cons (ev_cb (ea_cons (ev_call (ea_cons (ev_var rfl) ea_nil) (isEV hd hf)) ea_nil) (rc_reprX db fb)) ea_nil)) fun H1 e1 => ?_
    have hd1 := hd.up e1
    refine s_ret (ev_andV (ev_op (ev_cb (ea_cons (ev_call (ea_cons (ev_var rfl) ea_nil) (isEV hd1 hf)) ea_nil) (rc_reprX db fb)) (ev_var rfl) (rv_eq rfl))
      (fun _ => ev_andV (ev_op (ev_cb (ea_cons (ev_callK0 (gV := kwV) (ea_cons (ev_var rfl) ea_nil) (isEV hd1 hf)) ea_nil) (rc_reprX db fb)) (ev_var rfl) (rv_eq rfl))
      (fun _ => ev_op (ev_cb (ea_cons (ev_var rfl) ea_nil) (rc_reprX hd1 hf)) (ev_var rfl) (rv_eq rfl)))) fun H2 e2 => ?_
    have := q H2 (e1.trans e2)
    rw [decide_eq_true rfl, decide_eq_true rfl]
    exact this
end
end K02
namespace Es
open PySem PySem.Spec PyProof.Rows L2 Evl
theorem upd_out {S : Sx} {H : Hp} {D a : Addr} {o : HO} (hD : S.m D) (n : ¬ out (some S) a) : upd H D o a = H a := upd_ne (fun z => n (.inr (by rw [z]; exact hD)))
mutual
theorem Dd.mutS {S : Sx} {H : Hp} {D : Addr} {o : HO} (hD : S.m D) : ∀ {v : V} {d : PyData}, Dd (some S) H v d → Dd (some S) (upd H D o) v d
  | _, _, .non => .non
  | _, _, .bl b => .bl b
  | _, _, .int i => .int i
  | _, _, .str x => .str x
  | _, _, .lst n m h r => .lst n m ((upd_out hD n).trans h) (DdAll.mutS hD r)
  | _, _, .tup n h r => .tup n ((upd_out hD n).trans h) (DdAll.mutS hD r)
  | _, _, .dk0 n h => .dk0 n ((upd_out hD n).trans h)
  | _, _, .dk1 n h r => .dk1 n ((upd_out hD n).trans h) (Dd.mutS hD r)
theorem DdAll.mutS {S : Sx} {H : Hp} {D : Addr} {o : HO} (hD : S.m D) : ∀ {vs : List V} {ds : List PyData}, DdAll (some S) H vs ds → DdAll (some S) (upd H D o) vs ds
  | _, _, .nil => .nil
  | _, _, .cons h r => .cons (Dd.mutS hD h) (DdAll.mutS hD r)
end
theorem PotS.mutL {S : Sx} {H : Hp} {c : Int} {D : Addr} {xs : List V} (h : PotS S H c) (n : D ≠ S.p) : PotS S (upd H D (.lst xs)) c := by
  obtain ⟨⟨g, s0, c0, hh, q⟩, k⟩ := h
  refine ⟨⟨g, s0, c0, by rw [upd_ne n.symm]; exact hh, q⟩, fun a z => ?_⟩
  by_cases e : a = D
  · subst e
    exact ⟨xs, upd_same⟩
  · rw [upd_ne e]
    exact k a z
end Es
namespace K02
open PySem PySem.Spec PyProof.Rows L2 Evl Es
theorem fit_big {t : Tr} (h : t.ok) (hb : t.big ≤ 561) (hd : t.dep ≤ 3) : Fit 71 t.toD ∧ Sz t.toD := by
  obtain ⟨h1, _, h3, h4, h5⟩ := ok_show t h
  exact ⟨⟨h1, h3, by omega, by omega⟩, ⟨h1, h3, by omega, by omega⟩⟩
theorem bt_fit {b : Nat} {d : PyData} (hb : b ≤ 600) (h : Bt b 4 d) : Fit 190 d := ⟨h.1, h.2.1, by have := h.2.2.1; omega, by have := h.2.2.2; omega⟩
abbrev nRight : List Str := ["_law_pot_here", "_law_menu", "_law_turn", "_law_expression_here", "_law_some", "_law_again", "_law_thing"]
theorem scRight : FnScope nRight ["_law_pot_here"] (defScope sRight) := ⟨rfl, rfl, rfl, by decide +kernel, rfl, by decide +kernel, by decide +kernel⟩
theorem rep_all : ∀ n : Nat, (List.replicate n true).all id = true
  | 0 => rfl
  | n + 1 => by
    rw [List.replicate_succ, List.all_cons, rep_all n]
    rfl
def spRight : Sp := fun vs H Q _ => ∃ (p : Addr), vs = [.ref p] ∧ Pot H p 0 ∧ ∀ H', Xp p H H' → Q (.bl true) H'
section
variable {P : Program} {w : World} {K : PySem.W.Frag} {mg : Str → Option Value} {base : Heap} {aL fTok fFit fCnt fIsE fPot fTake fPick fExpr fOdd fBent fLTok fLCnt fLIsE fNest fHand fAsked fRight : Addr} {dTok dFit dCnt dIsE dPot dTake dPick dExpr dOdd dBent dLTok dLCnt dLIsE dNest dHand dAsked dRight : FuncData}
theorem g_expr (T : Top K mg aL fTok fFit fCnt fIsE fPot fTake fPick fExpr fOdd fBent fLTok fLCnt fLIsE fNest fHand fAsked fRight dTok dFit dCnt dIsE dPot dTake dPick dExpr dOdd dBent dLTok dLCnt dLIsE dNest dHand dAsked dRight) : FnOk P w K mg base CX0 12 fExpr dExpr ["_law_pot_here", "_law_leaf_menu", "_law_depth"] (spExpr 9) := by
  have b3 : Binds K dTake ["_law_pot_here", "_law_size"] [] := T.Take.binds fun _ _ _ _ _ _ us hl => match us, hl with | [_, _], _ => rfl
  have b4 : Binds K dPick ["_law_pot_here", "_law_some"] [] := T.Pick.binds fun _ _ _ _ _ _ us hl => match us, hl with | [_, _], _ => rfl
  have b5 : Binds K dExpr ["_law_pot_here", "_law_leaf_menu", "_law_depth"] [] := T.Expr.binds fun _ _ _ _ _ _ us hl => match us, hl with | [_, _, _], _ => rfl
  exact ok_expr T.Expr b5 T.gExpr T.Take b3 T.gTake T.Pick b4 T.gPick T.zlen T.zrange T.ztuple 9
theorem g_bent (T : Top K mg aL fTok fFit fCnt fIsE fPot fTake fPick fExpr fOdd fBent fLTok fLCnt fLIsE fNest fHand fAsked fRight dTok dFit dCnt dIsE dPot dTake dPick dExpr dOdd dBent dLTok dLCnt dLIsE dNest dHand dAsked dRight) : FnOk P w K mg base CX0 12 fBent dBent ["_law_pot_here", "_law_thing", "_law_depth"] (spBent 9) := by
  have b3 : Binds K dTake ["_law_pot_here", "_law_size"] [] := T.Take.binds fun _ _ _ _ _ _ us hl => match us, hl with | [_, _], _ => rfl
  have b4 : Binds K dPick ["_law_pot_here", "_law_some"] [] := T.Pick.binds fun _ _ _ _ _ _ us hl => match us, hl with | [_, _], _ => rfl
  have b5 : Binds K dBent ["_law_pot_here", "_law_thing", "_law_depth"] [] := T.Bent.binds fun _ _ _ _ _ _ us hl => match us, hl with | [_, _, _], _ => rfl
  have b6 : Binds K dOdd ["_law_pot_here", "_law_part"] [] := T.Odd.binds fun _ _ _ _ _ _ us hl => match us, hl with | [_, _], _ => rfl
  exact ok_bent T.Bent b5 T.gBent T.Take b3 T.gTake T.Odd.kp (fun k => ok_odd T.Odd T.Take b3 T.gTake T.Pick b4 T.gPick T.zlen T.zisinstance T.ztuple T.zstr T.zlist) b6 T.gOdd T.zlen T.zisinstance T.ztuple 9
theorem ok_right (T : Top K mg aL fTok fFit fCnt fIsE fPot fTake fPick fExpr fOdd fBent fLTok fLCnt fLIsE fNest fHand fAsked fRight dTok dFit dCnt dIsE dPot dTake dPick dExpr dOdd dBent dLTok dLCnt dLIsE dNest dHand dAsked dRight) : GnOk P w K mg base 13 fRight dRight ["_law_pot_here"] spRight := by
  have G1 := g_expr (P := P) (w := w) (base := base) T
  have G2 := g_bent (P := P) (w := w) (base := base) T
  have G3 := ok_asked (P := P) (w := w) (base := base) T
  have b1 : Binds K dExpr ["_law_pot_here", "_law_leaf_menu", "_law_depth"] [] := T.Expr.binds fun _ _ _ _ _ _ us hl => match us, hl with | [_, _, _], _ => rfl
  have b2 : Binds K dBent ["_law_pot_here", "_law_thing", "_law_depth"] [] := T.Bent.binds fun _ _ _ _ _ _ us hl => match us, hl with | [_, _, _], _ => rfl
  have b3 : Binds K dAsked ["_law_thing"] [] := T.Asked.binds fun _ _ _ _ _ _ us hl => match us, hl with | [_], _ => rfl
  refine gn_of (N := nRight) T.Right scRight (fun vs H Q E h => ?_) (fun cd A out s H vs Q E hg hr h => ?_)
  · obtain ⟨p, rfl, _⟩ := h
    rfl
  · obtain ⟨p, rfl, hP, q⟩ := h
    refine ⟨_, pss_cons (ps_set (i := 1) scRight.nd rfl (.inl rfl) (pe_lst (pa_cons (pe_tup (pa_cons pe_str (pa_cons pe_str pa_nil))) (pa_cons (pe_tup (pa_cons pe_str (pa_cons pe_str pa_nil))) (pa_cons (pe_tup (pa_cons pe_str (pa_cons pe_str pa_nil)))
        (pa_cons (pe_tup (pa_cons pe_str (pa_cons pe_str pa_nil))) pa_nil))))))
      (pss_cons (ps_for PassesOwn.never rfl (pi_range1 (by rfl) T.zrange (pa_cons pe_int pa_nil)) (pg_name (i := 2) scRight.nd rfl (.inl rfl))
        (pss_cons (ps_set (i := 3) scRight.nd rfl (.inr rfl) (pe_call G1 hr (by rfl) T.gExpr T.Expr.kp b1 .nil pass0 (pa_cons (pv 0) (pa_cons (pv 1) (pa_cons pe_int pa_nil)))))
        (pss_cons (ps_set (i := 4) scRight.nd rfl (.inl rfl) (pe_lst (pa_cons (pv 3) (pa_cons (pe_tup (pa_cons pe_str (pa_cons (pv 3) (pa_cons (pv 3) pa_nil)))) pa_nil))))
        (pss_cons (ps_expr (pe_bm PySem.F.plainAttrs_list PySem.F.slot_list_append PySem.F.type_list_append mt_append (pv 4) (pa_cons (pe_tup (pa_cons pe_str (pa_cons (pv 3) (pa_cons (pe_tup (pa_cons pe_str (pa_cons (pv 3) pa_nil))) pa_nil)))) pa_nil)))
        (pss_cons (ps_expr (pe_bm PySem.F.plainAttrs_list PySem.F.slot_list_extend PySem.F.type_list_extend mt_extend (pv 4) (pa_cons (pe_lc (own := [("_law_again", 5)]) (g := gName 5) (tt := tYes) rfl scRight.nd (pi_range1 (by rfl) T.zrange (pa_cons pe_int pa_nil))
          (blkOk_by (N := nRight) (sc := defScope sRight) (own := [("_law_again", 5)]) (by decide +kernel)) (fun _ _ _ _ _ => pg_name (i := 5) scRight.nd rfl (Or.inl rfl)) (fun _ _ _ _ _ => pts_nil)
          (fun _ _ _ _ _ => pe_call G2 hr (by rfl) T.gBent T.Bent.kp b2 .nil pass0 (pa_cons (pv 0) (pa_cons (pv 3) (pa_cons pe_int pa_nil))))) pa_nil)))
        (pss_one (ps_if (pt_not (pt_val (pe_callB (cr_all rfl) (by rfl) T.zall boot_all (pa_cons (pe_lc (own := [("_law_thing", 6)]) (g := gName 6) (tt := tYes) rfl scRight.nd (pi_list (pv 4))
          (blkOk_by (N := nRight) (sc := defScope sRight) (own := [("_law_thing", 6)]) (by decide +kernel)) (fun _ _ _ _ _ => pg_name (i := 6) scRight.nd rfl (Or.inl rfl)) (fun _ _ _ _ _ => pts_nil)
          (fun _ _ _ _ _ => pe_callG G3 hg hr (by rfl) T.gAsked T.Asked.kp b3 (pa_cons (pv 6) pa_nil))) pa_nil)))) (pss_one (ps_ret pe_bl)) pss_nil)))))))
      (pss_one (ps_ret pe_bl))), ?_⟩
    refine ⟨sz_of (by decide), fun a1 n1 => ⟨sz_of (by decide), fun a2 n2 => ⟨sz_of (by decide), fun a3 n3 => ⟨sz_of (by decide), fun a4 n4 => ⟨sz_of (by show 4 ≤ 100000; decide), fun m nm => ?_⟩⟩⟩⟩⟩
    have e1 := Ex.new (o := .tup [.str "token", .str "a"]) n1
    have e2 := Ex.new (o := .tup [.str "token", .str "num"]) n2
    have e3 := Ex.new (o := .tup [.str "block", .str "b"]) n3
    have e4 := Ex.new (o := .tup [.str "token", .str "abcdefgh"]) n4
    have em := Ex.new (o := .lst [.ref a1, .ref a2, .ref a3, .ref a4]) nm
    have h1 := (e2.trans (e3.trans (e4.trans em))) _ _ upd_same
    have h2 := (e3.trans (e4.trans em)) _ _ upd_same
    have h3 := (e4.trans em) _ _ upd_same
    have h4 := em _ _ upd_same
    have p1 := hP.ne n1
    have p2 := (hP.up e1).ne n2
    have p3 := (hP.up (e1.trans e2)).ne n3
    have p4 := (hP.up ((e1.trans e2).trans e3)).ne n4
    have pm := (hP.up (((e1.trans e2).trans e3).trans e4)).ne nm
    have e16 := (((e1.trans e2).trans e3).trans e4).trans em
    have hM : Menu p (upd (upd (upd (upd (upd H a1 (.tup [.str "token", .str "a"])) a2 (.tup [.str "token", .str "num"])) a3 (.tup [.str "block", .str "b"])) a4 (.tup [.str "token", .str "abcdefgh"])) m (.lst [.ref a1, .ref a2, .ref a3, .ref a4])) m := by
      refine ⟨pm, _, upd_same, by show 1 ≤ 4; decide, by show 4 ≤ 20; decide, fun v hv => ?_⟩
      simp only [List.mem_cons, List.not_mem_nil, or_false] at hv
      rcases hv with rfl | rfl | rfl | rfl
      · exact ⟨_, .leaf p1 h1, ⟨by decide, by decide⟩, rfl⟩
      · exact ⟨_, .leaf p2 h2, ⟨by decide, by decide⟩, rfl⟩
      · exact ⟨_, .leaf p3 h3, ⟨by decide, by decide⟩, rfl⟩
      · exact ⟨_, .leaf p4 h4, ⟨by decide, by decide⟩, rfl⟩
    clear h1 h2 h3 h4 em e4 e3 e2 e1
    generalize hH1 : upd _ m _ = H1 at hM e16
    refine ⟨4, rfl, by decide, by decide, for_range (lo := 0) (n := 4) (fun i σ H' => Xp p H1 H' ∧ Pot H' p (i * 150) ∧ ∃ y2 y3 y4, σ = [some (.ref p), some (.ref m), y2, y3, y4, none, none]) ⟨Xp.refl _ _, (hP.up e16).more (by omega), none, none, none, rfl⟩ ?_ ?_⟩
    · rintro i σ H2 hi ⟨x2, P2, y2, y3, y4, rfl⟩
      refine ⟨.ref p, rfl, .ref m, rfl, p, m, 3, i * 150, rfl, by decide, by decide, by omega, by show (i : Int) * 150 + 66 ≤ 90000; omega, P2, hM.xp x2, fun v t H3 x3 ht hok hdp hbig P3 => ?_⟩
      have P3' : Pot H3 p (i * 150 + 66) := P3
      obtain ⟨hfit, hsz⟩ := fit_big hok hbig hdp
      -- some
      refine ⟨v, rfl, v, rfl, v, rfl, sz_of (by show 3 ≤ 100000; decide), fun s1 ns1 => ⟨sz_of (by show 2 ≤ 100000; decide), fun l nl => ?_⟩⟩
      have e4 := Ex.new (o := .tup [.str "sequence", v, v]) ns1
      have e5 := Ex.new (o := .lst [v, .ref s1]) nl
      have hs1 := e5 _ _ (upd_same (H := H3) (a := s1) (o := .tup [.str "sequence", v, v]))
      have hl5 : upd (upd H3 s1 (.tup [.str "sequence", v, v])) l (.lst [v, .ref s1]) l = some (.lst [v, .ref s1]) := upd_same
      have s1p : s1 ≠ p := P3'.ne ns1
      have lp : l ≠ p := (P3'.up e4).ne nl
      have P5 := P3'.up (e4.trans e5)
      have ht5 := ht.up (e4.trans e5)
      have x35 := Xp.ex (p := p) (e4.trans e5)
      generalize upd (upd H3 s1 (.tup [.str "sequence", v, v])) l (.lst [v, .ref s1]) = H5 at hs1 hl5 P5 ht5 x35 ⊢
      clear e4 e5
      -- append
      refine ⟨.ref l, rfl, .inl ⟨rfl, _, sq_of hl5⟩, v, rfl, v, rfl, sz_of (by show 2 ≤ 100000; decide), fun r1 nr1 => ⟨sz_of (by show 3 ≤ 100000; decide), fun c1 nc1 => ?_⟩⟩
      have e6 := Ex.new (o := .tup [.str "repeat", v]) nr1
      have e7 := Ex.new (o := .tup [.str "choice", v, .ref r1]) nc1
      have hr1 := e7 _ _ (upd_same (H := H5) (a := r1) (o := .tup [.str "repeat", v]))
      have hc1 : upd (upd H5 r1 (.tup [.str "repeat", v])) c1 (.tup [.str "choice", v, .ref r1]) c1 = some (.tup [.str "choice", v, .ref r1]) := upd_same
      have r1p : r1 ≠ p := P5.ne nr1
      have c1p : c1 ≠ p := (P5.up e6).ne nc1
      have P7 := P5.up (e6.trans e7)
      have ht7 := ht5.up (e6.trans e7)
      have hs7 := (e6.trans e7) _ _ hs1
      have hl7 := (e6.trans e7) _ _ hl5
      have x57 := Xp.ex (p := p) (e6.trans e7)
      generalize upd (upd H5 r1 (.tup [.str "repeat", v])) c1 (.tup [.str "choice", v, .ref r1]) = H7 at hr1 hc1 P7 ht7 hs7 hl7 x57 ⊢
      clear e6 e7
      refine ⟨l, [v, .ref s1], .ref c1, rfl, rfl, hl7, sz_lt (by show 2 < 100000; decide), ?_⟩
      have ne_l : ∀ {a : Addr} {xs : List V}, H7 a = some (.tup xs) → a ≠ l := fun h z => by
        rw [z, hl7] at h
        cases h
      have hl8 : upd H7 l (.lst ([v, .ref s1] ++ [.ref c1])) l = some (.lst [v, .ref s1, .ref c1]) := upd_same
      have ht8 : TrAt p (upd H7 l (.lst ([v, .ref s1] ++ [.ref c1]))) v t := ht7.mutL hl7
      have hs8 : upd H7 l (.lst ([v, .ref s1] ++ [.ref c1])) s1 = some (.tup [.str "sequence", v, v]) := by
        rw [upd_ne (ne_l hs7)]
        exact hs7
      have hr8 : upd H7 l (.lst ([v, .ref s1] ++ [.ref c1])) r1 = some (.tup [.str "repeat", v]) := by
        rw [upd_ne (ne_l hr1)]
        exact hr1
      have hc8 : upd H7 l (.lst ([v, .ref s1] ++ [.ref c1])) c1 = some (.tup [.str "choice", v, .ref r1]) := by
        rw [upd_ne (ne_l hc1)]
        exact hc1
      have P8 : Pot (upd H7 l (.lst ([v, .ref s1] ++ [.ref c1]))) p (i * 150 + 66) := by
        obtain ⟨g, s0, c0, hh, q⟩ := P7
        exact ⟨g, s0, c0, by rw [upd_ne lp.symm]; exact hh, q⟩
      have nl3 : H3 l = none := by
        by_cases h : l = s1
        · rw [h] at nl
          rw [upd_same] at nl
          cases nl
        · rw [upd_ne h] at nl
          exact nl
      have x38 : Xp p H3 (upd H7 l (.lst ([v, .ref s1] ++ [.ref c1]))) := (x35.trans x57).mut nl3
      generalize upd H7 l (.lst ([v, .ref s1] ++ [.ref c1])) = H8 at hl8 ht8 hs8 hr8 hc8 P8 x38 ⊢
      clear hl7 hl5 ht7 ht5 hs7 hs1 hr1 hc1 ne_l P7 P5 x35 x57
      -- extend
      refine ⟨.ref l, rfl, .inl ⟨rfl, _, sq_of hl8⟩, 8, rfl, by decide, by decide, fun D nD => ?_⟩
      have Dp : D ≠ p := P8.ne nD
      refine lc_range (lo := 0) (n := 8) (g := gName 5) (tt := tYes) (vs := [5]) (fun j H' => Xp p H8 H' ∧ PotS ⟨p, fun a => a = l ∨ a = D⟩ H' (i * 150 + 66 + j * 10) ∧ ∃ vs ds, H' D = some (.lst vs) ∧ ds.length = j ∧ DdAll (some ⟨p, fun a => a = l ∨ a = D⟩) H' vs ds ∧ AllFit 190 ds) ?_ ?_ ?_
      · refine ⟨(Xp.refl _ _).mut nD, ⟨(P8.up (Ex.new nD)).more (by omega), ?_⟩, [], [], upd_same, rfl, .nil, .nil⟩
        rintro a (z | z)
        · subst z
          exact ⟨_, (Ex.new nD) _ _ hl8⟩
        · subst z
          exact ⟨[], upd_same⟩
      · rintro j H' hj ⟨xj, Pj, vs, ds, hD, hlen, hds, haf⟩
        have hvl := hds.length
        refine ⟨rfl, .ref p, rfl, v, rfl, ⟨p, fun a => a = l ∨ a = D⟩, v, t.toD, 4, i * 150 + 66 + j * 10, rfl, by decide, .inl ⟨t, ht8.xp xj, hok, rfl⟩, hsz, by omega, by omega, Pj, fun u e H9 x9 P9 hu he => ?_⟩
        refine ⟨vs, x9 _ _ Dp hD, sz_lt (by omega), (xj.trans x9).mut nD, (P9.mutL Dp).more (by omega), vs ++ [u], ds ++ [e], upd_same, by rw [List.length_append, hlen]; rfl, ((hds.xp x9).append (.cons hu .nil)).mutS (Or.inr rfl), haf.app (.cons (bt_fit hsz.2.2.1 he) .nil)⟩
      rintro H9 ⟨x9, P9, vs, ds, hD, hlen, hds, haf⟩
      have hvl := hds.length
      have hl9 := x9 _ _ lp hl8
      refine ⟨l, D, [v, .ref s1, .ref c1], vs, rfl, rfl, hl9, hD, sz_of (by show 3 + vs.length ≤ 100000; omega), ?_⟩
      -- what stands there
      have ht9 := ht8.xp x9
      have hv9 : Dd (some ⟨p, fun a => a = l ∨ a = D⟩) H9 v t.toD := ht9.dd P9
      have hs9 := x9 _ _ s1p hs8
      have hr9 := x9 _ _ r1p hr8
      have hc9 := x9 _ _ c1p hc8
      have hall : DdAll (some ⟨p, fun a => a = l ∨ a = D⟩) H9 [v, .ref s1, .ref c1] [t.toD, .tuple [.str "sequence", t.toD, t.toD], .tuple [.str "choice", t.toD, .tuple [.str "repeat", t.toD]]] :=
        .cons hv9 (.cons (.tup (P9.tn s1p hs9) hs9 (.cons (.str _) (.cons hv9 (.cons hv9 .nil)))) (.cons (.tup (P9.tn c1p hc9) hc9 (.cons (.str _) (.cons hv9 (.cons (.tup (P9.tn r1p hr9) hr9 (.cons (.str _) (.cons hv9 .nil))) .nil)))) .nil))
      have fk : ∀ z : Str, fits 1 z = true → Fit 1 (.str z) := fun z h => fit_b h
      have haf3 : AllFit 190 [t.toD, .tuple [.str "sequence", t.toD, t.toD], .tuple [.str "choice", t.toD, .tuple [.str "repeat", t.toD]]] :=
        .cons (hfit.more (by decide)) (.cons ((Fits.cons (fk "sequence" (by decide +kernel)) (Fits.cons hfit (Fits.cons hfit Fits.nil))).tup.more (by decide)) (.cons ((Fits.cons (fk "choice" (by decide +kernel)) (Fits.cons hfit (Fits.cons (Fits.cons (fk "repeat" (by decide +kernel)) (Fits.cons hfit Fits.nil)).tup Fits.nil))).tup.more (by decide)) .nil))
      have hall10 := (hall.append hds).mutS (D := l) (o := .lst ([v, .ref s1, .ref c1] ++ vs)) (Or.inl rfl)
      have haf10 := haf3.app haf
      have hl10 : upd H9 l (.lst ([v, .ref s1, .ref c1] ++ vs)) l = some (.lst ([v, .ref s1, .ref c1] ++ vs)) := upd_same
      have P10 : Pot (upd H9 l (.lst ([v, .ref s1, .ref c1] ++ vs))) p (i * 150 + 146) := ((P9.mutL lp).1).more (by omega)
      have x310 : Xp p H3 (upd H9 l (.lst ([v, .ref s1, .ref c1] ++ vs))) := (x38.trans x9).mut nl3
      have len10 : ([v, V.ref s1, V.ref c1] ++ vs).length ≤ 100 := by
        rw [List.length_append]
        show 3 + vs.length ≤ 100
        omega
      generalize [v, V.ref s1, V.ref c1] ++ vs = ws at hall10 hl10 P10 x310 len10 ⊢
      generalize [t.toD, PyData.tuple [.str "sequence", t.toD, t.toD], .tuple [.str "choice", t.toD, .tuple [.str "repeat", t.toD]]] ++ ds = es at hall10 haf10 ⊢
      generalize upd H9 l (.lst ws) = H10 at hall10 hl10 P10 x310 ⊢
      -- asked
      refine ⟨.ref l, rfl, l, rfl, ⟨_, sq_of hl10⟩, fun D2 nD2 => ?_⟩
      refine lc_list (g := gName 6) (tt := tYes) (vs := [6]) (fun j H' => Ex H10 H' ∧ H' D2 = some (.lst ((List.replicate j true).map V.bl))) ⟨Ex.new nD2, upd_same⟩ (fun j H' _ y => sq_of (y.1 _ _ hl10)) ?_ ?_
      · rintro j u H' hu ⟨ej, hD2⟩
        obtain ⟨d, hdj, hud⟩ := hall10.get hu
        refine ⟨rfl, u, rfl, _, u, d, rfl, hud.up ej, haf10 d (List.mem_of_getElem? hdj), fun H11 e11 => ⟨_, e11 _ _ hD2, ?_, Ex.mut (ej.trans e11) nD2, ?_⟩⟩
        · rw [List.length_map, List.length_replicate]
          have hju := (List.getElem?_eq_some_iff.mp hu).1
          exact sz_lt (by omega)
        · rw [upd_same, List.replicate_succ', List.map_append]
          rfl
      · rintro H' ⟨ej, hD2⟩
        refine ⟨D2, List.replicate ws.length true, rfl, sq_of hD2, _, rfl, ?_⟩
        rw [rep_all]
        refine iteF ?_
        exact ⟨(x2.trans (x3.trans x310)).trans (Xp.ex ej), (P10.up ej).more (by omega), _, _, _, rfl⟩
    · rintro σ H' ⟨x, P, y2, y3, y4, rfl⟩
      exact q H' ((Xp.ex e16).trans x)
end
end K02
namespace Es
open PySem PySem.Spec PyProof.Rows L2 Evl
/-! making data, no pot about -/
def EvN (te : TE) (σ : L2.St) (H : Hp) (D : PyData → Prop) : Prop := ∀ H1, Ex H H1 → ∀ Q : VK, (∀ v d H2, Ex H1 H2 → Dd none H2 v d → D d → Q v H2) → te σ H1 Q
def EvNA (ta : TA) (σ : L2.St) (H : Hp) (D : List PyData → Prop) : Prop := ∀ H1, Ex H H1 → ∀ Q : List V → Hp → Prop, (∀ vs ds H2, Ex H1 H2 → DdAll none H2 vs ds → D ds → Q vs H2) → ta σ H1 Q
def EvNL (te : TE) (σ : L2.St) (H : Hp) (D : List PyData → Prop) : Prop := ∀ H1, Ex H H1 → ∀ Q : VK, (∀ l vs ds H2, Ex H1 H2 → H2 l = none → DdAll none H2 vs ds → D ds → Q (.ref l) (upd H2 l (.lst vs))) → te σ H1 Q
section
variable {K : PySem.W.Frag} {σ : L2.St} {H : Hp} {te tf : TE} {ta : TA} {D E : PyData → Prop} {L : List PyData → Prop}
theorem evn_imp (h : EvN te σ H D) (hi : ∀ d, D d → E d) : EvN te σ H E := fun H1 x Q q => h H1 x Q fun v d H2 x2 hd hD => q v d H2 x2 hd (hi d hD)
theorem evn_var {i : Nat} {v : V} {d : PyData} (h : σ[i]? = some (some v)) (hd : Dd none H v d) (hD : D d) : EvN (tVar i) σ H D := fun H1 x Q q => ⟨v, h, q v d H1 (Ex.refl _) (hd.up x) hD⟩
theorem evn_str {z : Str} (hD : D (.str z)) : EvN (tC (.str z)) σ H D := fun H1 x Q q => q _ _ H1 (Ex.refl _) (.str z) hD
theorem evn_int {z : Int} (hD : D (.int z)) : EvN (tC (.int z)) σ H D := fun H1 x Q q => q _ _ H1 (Ex.refl _) (.int z) hD
theorem evn_bl {z : Bool} (hD : D (.bool z)) : EvN (tC (.bl z)) σ H D := fun H1 x Q q => q _ _ H1 (Ex.refl _) (.bl z) hD
theorem evn_non (hD : D .none) : EvN (tC .non) σ H D := fun H1 x Q q => q _ _ H1 (Ex.refl _) .non hD
theorem evna_nil (h : L []) : EvNA tNil σ H L := fun H1 x Q q => q [] [] H1 (Ex.refl _) .nil h
theorem evna_cons {M : List PyData → Prop} (h : EvN te σ H D) (r : EvNA ta σ H L) (hL : ∀ d ds, D d → L ds → M (d :: ds)) : EvNA (tCons te ta) σ H M := by
  intro H1 x Q q
  refine h H1 x _ fun v d H2 x2 hd hD => ?_
  exact r H2 (x.trans x2) _ fun vs ds H3 x3 hds hL' => q _ _ H3 (x2.trans x3) (.cons (hd.up x3) hds) (hL d ds hD hL')
theorem evna_t {n m : Nat} (h : EvN te σ H (Fit n)) (r : EvNA ta σ H (Fits m)) : EvNA (tCons te ta) σ H (Fits (n + 1 + m)) := evna_cons h r fun _ _ a b => Fits.cons a b
theorem evna_l {n m : Nat} (h : EvN te σ H (Fit n)) (r : EvNA ta σ H (fun ds => AllFit n ds ∧ ds.length = m)) : EvNA (tCons te ta) σ H (fun ds => AllFit n ds ∧ ds.length = m + 1) := evna_cons h r fun _ _ a b => ⟨.cons a b.1, congrArg Nat.succ b.2⟩
theorem evna_l0 {n : Nat} : EvNA tNil σ H (fun ds => AllFit n ds ∧ ds.length = 0) := evna_nil ⟨.nil, rfl⟩
theorem evn_tup {n : Nat} (h : EvNA ta σ H (Fits n)) (hn : n ≤ 10000) : EvN (tTup ta) σ H (Tu n) := by
  intro H1 x Q q
  refine h H1 x _ fun vs ds H2 x2 hds hL => ⟨?_, fun a na => ?_⟩
  · have l1 := hds.length
    have := hL.length
    exact sz_of (by omega)
  · have e := Ex.new (o := .tup vs) na
    exact q _ _ _ (x2.trans e) (.tup sn0 upd_same (hds.up e)) ⟨ds, rfl, hL⟩
theorem evn_tf {n m : Nat} (h : EvNA ta σ H (Fits n)) (hn : n + 1 ≤ m) (hm : m ≤ 10000) : EvN (tTup ta) σ H (Fit m) := evn_imp (evn_tup h (by omega)) fun d hd => hd.fit.more hn
theorem evn_lst1 {n m : Nat} (h : EvNA ta σ H (Fits n)) (hn : n + 1 ≤ m) (hm : m ≤ 10000) : EvN (tLst1 ta) σ H (Fit m) := by
  intro H1 x Q q
  refine h H1 x _ fun vs ds H2 x2 hds hL => ⟨?_, fun a ns na => ?_⟩
  · have l1 := hds.length
    have := hL.length
    exact sz_of (by omega)
  · have e := Ex.new (o := .lst vs) na
    exact q _ _ _ (x2.trans e) (.lst sn0 ns upd_same (hds.up e)) (hL.lst.more hn)
theorem evn_dk0 : EvN tDNewK σ H (Fit 1) := fun H1 x Q q a na => by
  have e := Ex.new (o := .dK []) na
  exact q _ _ _ e (.dk0 sn0 upd_same) fit_dk0
theorem evn_cat {n m : Nat} (h : EvN te σ H (Tu n)) (r : EvN tf σ H (Tu m)) (hn : n + m ≤ 10000) : EvN (tOp (rCatA K) te tf) σ H (Tu (n + m)) := by
  intro H1 x Q q
  refine h H1 x _ fun v d H2 x2 hd hD => ?_
  refine r H2 (x.trans x2) _ fun u e H3 x3 he hE => ?_
  obtain ⟨ds, rfl, f1⟩ := hD
  obtain ⟨es, rfl, f2⟩ := hE
  have hd3 := hd.up x3
  have l1 := f1.length
  have l2 := f2.length
  cases hd3 with
  | @tup a xs _ na ha hxs =>
    cases he with
    | @tup b ys _ nb hb hys =>
      have m1 := hxs.length
      have m2 := hys.length
      refine ⟨a, b, xs, ys, rfl, rfl, st_of ha, st_of hb, sz_of (by omega), fun z => ?_, fun _ z => ?_, fun _ _ t nt => ?_⟩
      · subst z
        cases hxs
        exact q _ _ H3 (x2.trans x3) (.tup nb hb hys) ⟨es, rfl, f2.more (by omega)⟩
      · subst z
        cases hys
        exact q _ _ H3 (x2.trans x3) (.tup na ha hxs) ⟨ds, rfl, f1.more (by omega)⟩
      · have e := Ex.new (o := .tup (xs ++ ys)) nt
        exact q _ _ _ ((x2.trans x3).trans e) (.tup sn0 upd_same ((hxs.append hys).up e)) ⟨_, rfl, f1.app f2⟩
theorem evn_rep6 {n : Nat} (h : EvN te σ H (Fit n)) (hn : n ≤ 1000) : EvN (tOp (rRepT K) (tTup (tCons te tNil)) (tC (.int 6))) σ H (Tu (6 * (n + 1))) := by
  intro H1 x Q q
  refine h H1 x _ fun v d H2 x2 hd hD => ⟨sz_of (by show 1 ≤ 100000; decide), fun a na => ?_⟩
  have e := Ex.new (o := .tup [v]) na
  refine ⟨a, 6, [v], rfl, rfl, st_of upd_same, by simp, by decide, by decide, by show 1 ≤ 1000; decide, fun t nt => ?_⟩
  have e2 := Ex.new (o := .tup (List.replicate (6 : Int).toNat [v]).flatten) nt
  have hv := (hd.up e).up e2
  exact q _ (.tuple [d, d, d, d, d, d]) _ ((x2.trans e).trans e2) (.tup (xs := [v, v, v, v, v, v]) sn0 upd_same (.cons hv (.cons hv (.cons hv (.cons hv (.cons hv (.cons hv .nil))))))) ⟨_, rfl, (Fits.cons hD (Fits.cons hD (Fits.cons hD (Fits.cons hD (Fits.cons hD (Fits.cons hD Fits.nil)))))).more (by omega)⟩
theorem evnl_lst {N : Nat} (h : EvNA ta σ H (fun ds => L ds ∧ ds.length = N)) (hN : N ≤ 10000) : EvNL (tLst ta) σ H (fun ds => L ds ∧ ds.length = N) := by
  intro H1 x Q q
  refine h H1 x _ fun vs ds H2 x2 hds hL => ⟨?_, fun l nl => q l vs ds H2 x2 nl hds hL⟩
  have := hds.length
  have := hL.2
  exact sz_of (by omega)
/-- a list at a name, and more behind it -/
theorem evnl_cat {i : Nat} {l : Addr} {vs : List V} {ds : List PyData} {n A B : Nat} (h : σ[i]? = some (some (.ref l))) (hl : H l = some (.lst vs)) (hd : DdAll none H vs ds) (hL : AllFit n ds ∧ ds.length = A) (r : EvNL tf σ H (fun ds => AllFit n ds ∧ ds.length = B)) (hn : A + B ≤ 10000) :
    EvNL (tOp rCat (tVar i) tf) σ H (fun ds => AllFit n ds ∧ ds.length = A + B) := by
  intro H1 x Q q
  refine ⟨.ref l, h, r H1 x _ fun m ws es H2 x2 nm hes hE => ?_⟩
  have l1 := hd.length
  have l2 := hes.length
  have d1 := hL.2
  have d2 := hE.2
  have em := Ex.new (o := .lst ws) nm
  refine ⟨l, m, vs, ws, rfl, rfl, em _ _ (x2 _ _ (x _ _ hl)), upd_same, sz_of (by omega), fun a na => ?_⟩
  refine q a _ (ds ++ es) _ (x2.trans em) na ((((hd.up x).up x2).append hes).up em) ⟨hL.1.app hE.1, by rw [List.length_append]; omega⟩
mutual
theorem Dd.fresh {l : Addr} (hl : H l = none) : ∀ {v : V} {d : PyData}, Dd none H v d → Dd (some ⟨l, fun _ => False⟩) H v d
  | _, _, .non => .non
  | _, _, .bl b => .bl b
  | _, _, .int i => .int i
  | _, _, .str x => .str x
  | _, _, .lst n m h r => .lst (nof hl h) m h (DdAll.fresh hl r)
  | _, _, .tup n h r => .tup (nof hl h) h (DdAll.fresh hl r)
  | _, _, .dk0 n h => .dk0 (nof hl h) h
  | _, _, .dk1 n h r => .dk1 (nof hl h) h (Dd.fresh hl r)
theorem DdAll.fresh {l : Addr} (hl : H l = none) : ∀ {vs : List V} {ds : List PyData}, DdAll none H vs ds → DdAll (some ⟨l, fun _ => False⟩) H vs ds
  | _, _, .nil => .nil
  | _, _, .cons h r => .cons (Dd.fresh hl h) (DdAll.fresh hl r)
theorem nof {l a : Addr} {o : HO} (hl : H l = none) (h : H a = some o) : ¬ out (some ⟨l, fun _ => False⟩) a := by
  rintro (z | z)
  · have z' : a = l := z
    rw [z', hl] at h
    cases h
  · exact z
end
mutual
theorem Dd.any {S : Sx} : ∀ {v : V} {d : PyData}, Dd (some S) H v d → Dd none H v d
  | _, _, .non => .non
  | _, _, .bl b => .bl b
  | _, _, .int i => .int i
  | _, _, .str x => .str x
  | _, _, .lst n m h r => .lst sn0 m h (DdAll.any r)
  | _, _, .tup n h r => .tup sn0 h (DdAll.any r)
  | _, _, .dk0 n h => .dk0 sn0 h
  | _, _, .dk1 n h r => .dk1 sn0 h (Dd.any r)
theorem DdAll.any {S : Sx} : ∀ {vs : List V} {ds : List PyData}, DdAll (some S) H vs ds → DdAll none H vs ds
  | _, _, .nil => .nil
  | _, _, .cons h r => .cons (Dd.any h) (DdAll.any r)
end
end
end Es
namespace K02
open PySem PySem.Spec PyProof.Rows L2 Evl Es
abbrev nNest : List Str := ["_law_expression_here", "_law_times", "_law_turn"]
theorem scNest : FnScope nNest ["_law_expression_here", "_law_times"] (defScope sNest) := ⟨rfl, rfl, rfl, by decide +kernel, rfl, by decide +kernel, by decide +kernel⟩
def spNest : Sp := fun vs H Q _ => ∃ (v : V) (d : PyData) (n t : Nat), vs = [v, .int (t : Int)] ∧ t ≤ 10 ∧ n ≤ 1000 ∧ Dd none H v d ∧ Fit n d ∧ ∀ u e H', Ex H H' → Dd none H' u e → Fit (n + 4 * t) e → Q u H'
theorem kind_mod (i : Nat) : ∃ k : Str, atI [V.str "repeat", V.str "optional"] ((0 + (i : Int)) % 2) = some (V.str k) ∧ fits 1 k = true := by
  have : (0 + (i : Int)) % 2 = 0 ∨ (0 + (i : Int)) % 2 = 1 := by omega
  rcases this with h | h <;> rw [h]
  · exact ⟨"repeat", rfl, by decide +kernel⟩
  · exact ⟨"optional", rfl, by decide +kernel⟩
section
variable {P : Program} {w : World} {K : PySem.W.Frag} {mg : Str → Option Value} {base : Heap}
theorem ok_nest {f : Addr} {fd : FuncData} {k : Nat} (F : Fun K "_law_nested" "_law_nested" sNest f fd) (mr : mg "range" = none) : FnOk P w K mg base CX0 (k + 1) f fd ["_law_expression_here", "_law_times"] spNest := by
  refine F.ok scNest (fun vs H Q E h => ?_) (fun cdv A outer s H vs Q E hr h => ?_)
  · obtain ⟨v, d, n, t, rfl, _⟩ := h
    rfl
  · obtain ⟨v, d, n, t, rfl, ht, hn, hd, hf, q⟩ := h
    refine ⟨_, pss_cons (ps_for PassesOwn.never rfl (pi_range1 (by rfl) mr (pa_cons (pv 1) pa_nil)) (pg_name (i := 2) scNest.nd rfl (.inl rfl))
        (pss_one (ps_set (i := 0) scNest.nd rfl (.inl rfl) (pe_tup (pa_cons (pe_ix ix_list (pe_lst (pa_cons pe_str (pa_cons pe_str pa_nil))) (pe_op op_mod (pv 2) pe_int) (fun _ _ => rfl)) (pa_cons (pv 0) pa_nil))))))
      (pss_one (ps_ret (pv 0))), ?_⟩
    refine ⟨.int (t : Int), rfl, (t : Int), rfl, by omega, by omega, for_range (lo := 0) (n := t) (fun i σ H' => Ex H H' ∧ ∃ v d y, Dd none H' v d ∧ Fit (n + 4 * i) d ∧ σ = [some v, some (.int (t : Int)), y]) ⟨Ex.refl _, v, d, none, hd, hf, rfl⟩ ?_ ?_⟩
    · rintro i σ H' hi ⟨ei, u, e, y, hu, he, rfl⟩
      obtain ⟨kd, hat, hk⟩ := kind_mod i
      refine ⟨sz_of (by decide), fun l nl => ⟨.int (0 + (i : Int)), rfl, _, 2, rfl, rfl, (show (0 : Int) < 2 by decide), l, _, _, .str kd, rfl, rfl, sq_of upd_same, hat, u, rfl, sz_of (by show 2 ≤ 100000; decide), fun a na => ?_⟩⟩
      have e1 := Ex.new (o := .lst [.str "repeat", .str "optional"]) nl
      have e2 := Ex.new (o := .tup [.str kd, u]) na
      exact ⟨(ei.trans e1).trans e2, _, .tuple [.str kd, e], _, .tup sn0 upd_same (.cons (.str _) (.cons ((hu.up e1).up e2) .nil)), (Fits.cons (fit_b hk) (Fits.cons he Fits.nil)).tup.more (by omega), rfl⟩
    · rintro σ H' ⟨ei, u, e, y, hu, he, rfl⟩
      exact ⟨u, rfl, q u e H' ei hu he⟩
end
end K02
namespace K02
open PySem PySem.Spec PyProof.Rows L2 Evl Es
abbrev nHand : List Str := ["_law_leaf", "_law_six", "_law_two", "_law_found"]
theorem scHand : FnScope nHand [] (defScope sHand) := ⟨rfl, rfl, rfl, by decide +kernel, rfl, by decide +kernel, by decide +kernel⟩
def spHand : Sp := fun vs H Q _ => vs = [] ∧ ∀ l vs ds H', Ex H H' → H' l = some (.lst vs) → DdAll none H' vs ds → AllFit 190 ds → ds.length ≤ 100 → Q (.ref l) H'
theorem par_of {ta : TA} {tz : TS} {D : Ends} {σ : L2.St} {H : Hp} {i j : Nat} (h : ta σ H fun vs H1 => ∃ v w, vs = [v, w] ∧ tz D ((σ.set i (some v)).set j (some w)) H1) : tSeq (tPar i j ta) tz D σ H := h
theorem ret_of {te : TE} {D : Ends} {σ : L2.St} {H : Hp} (h : te σ H D.rt) : tRet te D σ H := h
theorem ns {σ : L2.St} {H : Hp} {n : Nat} (z : Str) (h : fits n z = true := by decide +kernel) : EvN (tC (.str z)) σ H (Fit n) := evn_str (fit_b h)
section
variable {P : Program} {w : World} {K : PySem.W.Frag} {mg : Str → Option Value} {base : Heap}
theorem ok_hand {f fN : Addr} {fd fdN : FuncData} {k : Nat} (F : Fun K "_law_by_hand" "_law_by_hand" sHand f fd) (GN : FnOk P w K mg base CX0 (k + 1) fN fdN ["_law_expression_here", "_law_times"] spNest) (bN : Binds K fdN ["_law_expression_here", "_law_times"] []) (gN : mg "_law_nested" = some (.ref fN)) (kN : PySem.W.keepIn K (.ref fN) = true) :
    FnOk P w K mg base CX0 (k + 2) f fd [] spHand := by
  refine F.ok scHand (fun vs H Q E h => ?_) (fun cdv A outer s H vs Q E hr h => ?_)
  · obtain ⟨rfl, _⟩ := h
    rfl
  · obtain ⟨rfl, q⟩ := h
    refine ⟨_, pss_cons (ps_set (i := 0) scHand.nd rfl (.inl rfl) (pe_tup (pa_cons pe_str (pa_cons pe_str pa_nil))))
      (pss_cons (ps_par rfl scHand.nd rfl rfl (by decide) rfl rfl (i := 1) (j := 2) (pa_cons (pe_op op_catA (pe_tup (pa_cons pe_str pa_nil)) (pe_op op_repT (pe_tup (pa_cons (pv 0) pa_nil)) pe_int))
          (pa_cons (pe_tup (pa_cons pe_str (pa_cons (pv 0) (pa_cons (pe_tup (pa_cons pe_str (pa_cons pe_str pa_nil))) pa_nil)))) pa_nil)) (by rfl))
      (pss_cons (ps_set (i := 3) scHand.nd rfl (.inl rfl) (pe_lst (pa_cons (pv 0) (pa_cons (pe_tup (pa_cons pe_str (pa_cons pe_str pa_nil))) (pa_cons (pv 2) (pa_cons (pv 1) (pa_cons (pe_op op_catA (pv 1) (pe_tup (pa_cons (pv 0) pa_nil))) (pa_cons (pe_tup (pa_cons pe_str (pa_cons (pv 0) pa_nil))) (pa_cons (pe_tup (pa_cons pe_str pa_nil)) pa_nil)))))))))
      (pss_cons (ps_set (i := 3) scHand.nd rfl (.inl rfl) (pe_op op_cat (pv 3) (pe_lst (pa_cons (pe_tup (pa_cons pe_str (pa_cons (pv 0) (pa_cons (pv 0) pa_nil)))) (pa_cons (pe_tup (pa_cons pe_str (pa_cons (pv 1) (pa_cons (pv 1) (pa_cons (pv 0) (pa_cons (pv 0) (pa_cons (pv 0) (pa_cons (pv 0) pa_nil)))))))) pa_nil)))))
      (pss_cons (ps_expr (pe_bm PySem.F.plainAttrs_list PySem.F.slot_list_append PySem.F.type_list_append mt_append (pv 3) (pa_cons (pe_tup (pa_cons pe_str (pa_cons (pv 1) (pa_cons (pv 1) (pa_cons (pv 0) (pa_cons (pv 0) (pa_cons (pv 0) (pa_cons (pv 2) pa_nil)))))))) pa_nil)))
      (pss_cons (ps_set (i := 3) scHand.nd rfl (.inl rfl) (pe_op op_cat (pv 3) (pe_lst (pa_cons (pe_call GN hr (by rfl) gN kN bN .nil pass0 (pa_cons (pv 0) (pa_cons pe_int pa_nil))) (pa_cons (pe_call GN hr (by rfl) gN kN bN .nil pass0 (pa_cons (pv 0) (pa_cons pe_int pa_nil)))
          (pa_cons (pe_call GN hr (by rfl) gN kN bN .nil pass0 (pa_cons (pv 2) (pa_cons pe_int pa_nil))) (pa_cons (pe_call GN hr (by rfl) gN kN bN .nil pass0 (pa_cons (pv 2) (pa_cons pe_int pa_nil))) pa_nil)))))))
      (pss_cons (ps_set (i := 3) scHand.nd rfl (.inl rfl) (pe_op op_cat (pv 3) (pe_lst (pa_cons (pe_tup pa_nil) (pa_cons pe_non (pa_cons pe_bl (pa_cons pe_int (pa_cons pe_str (pa_cons (pe_tup (pa_cons pe_str pa_nil)) (pa_cons (pe_tup (pa_cons pe_str (pa_cons pe_str pa_nil))) (pa_cons (pe_tup (pa_cons pe_str (pa_cons pe_str pa_nil))) pa_nil)))))))))))
      (pss_one (ps_ret (pe_op op_cat (pv 3) (pe_lst (pa_cons (pe_tup (pa_cons pe_str (pa_cons (pv 0) pa_nil))) (pa_cons (pe_lst1 (pa_cons (pv 0) pa_nil)) (pa_cons pe_dnewK pa_nil))))))))))))), ?_⟩
    -- a leaf
    have h0 := evn_tf (σ := L2.start nHand []) (H := H) (m := 5) (evna_t (ns (n := 1) "token") (evna_t (ns (n := 1) "a") (evna_nil Fits.nil))) (by decide) (by decide)
    refine qp_asg (h0 H (Ex.refl _) _ fun v0 d0 H1 e1 hv0 f0 => ?_)
    -- six, two
    have h12 : EvNA (tCons (tOp (rCatA K) (tTup (tCons (tC (.str "choice")) tNil)) (tOp (rRepT K) (tTup (tCons (tVar 0) tNil)) (tC (.int 6)))) (tCons (tTup (tCons (tC (.str "sequence")) (tCons (tVar 0) (tCons (tTup (tCons (tC (.str "block")) (tCons (tC (.str "b")) tNil))) tNil)))) tNil))
        [some v0, none, none, none] H1 (fun ds => ∃ d1 d2, ds = [d1, d2] ∧ Tu 38 d1 ∧ Fit 15 d2) :=
      evna_cons (D := Tu 38) (L := fun ds => ∃ d2, ds = [d2] ∧ Fit 15 d2) (evn_imp (evn_cat (evn_tup (evna_t (ns (n := 1) "choice") (evna_nil Fits.nil)) (by decide)) (evn_rep6 (n := 5) (evn_var (i := 0) rfl hv0 f0) (by decide)) (by decide)) fun d ⟨ds, a, b⟩ => ⟨ds, a, b.more (by decide)⟩)
        (evna_cons (D := Fit 15) (L := fun ds => ds = []) (evn_tf (evna_t (ns (n := 1) "sequence") (evna_t (n := 5) (evn_var (i := 0) rfl hv0 f0) (evna_t (n := 5) (evn_tf (evna_t (ns (n := 1) "block") (evna_t (ns (n := 1) "b") (evna_nil Fits.nil))) (by decide) (by decide)) (evna_nil Fits.nil)))) (by decide) (by decide)) (evna_nil rfl) fun d ds a b => ⟨d, by rw [b], a⟩) fun d ds a ⟨d2, b, c⟩ => ⟨d, d2, by rw [b], a, c⟩
    refine par_of (h12 H1 (Ex.refl _) _ fun vs ds H2 e2 hds hD => ?_)
    obtain ⟨d1, d2, rfl, f1, f2⟩ := hD
    obtain ⟨v1, v2, rfl, hv1, hv2⟩ : ∃ v1 v2, vs = [v1, v2] ∧ Dd none H2 v1 d1 ∧ Dd none H2 v2 d2 := by
      cases hds with
      | cons a r =>
        cases r with
        | cons b r =>
          cases r
          exact ⟨_, _, rfl, a, b⟩
    refine ⟨v1, v2, rfl, ?_⟩
    have hv02 := hv0.up e2
    have g0 : Fit 190 d0 := f0.more (by decide)
    have g1 : Fit 190 d1 := f1.fit.more (by decide)
    have f1' : Fit 39 d1 := f1.fit
    have g2 : Fit 190 d2 := f2.more (by decide)
    -- found
    have h3 := evnl_lst (σ := [some v0, some v1, some v2, none]) (H := H2) (N := 7) (L := AllFit 190) (evna_l (evn_var (i := 0) rfl hv02 g0) (evna_l (evn_tf (m := 190) (evna_t (ns (n := 1) "block") (evna_t (ns (n := 1) "b") (evna_nil Fits.nil))) (by decide) (by decide)) (evna_l (evn_var (i := 2) rfl hv2 g2) (evna_l (evn_var (i := 1) rfl hv1 g1)
      (evna_l (evn_imp (evn_cat (K := K) (evn_var (D := Tu 38) (i := 1) rfl hv1 f1) (evn_tup (evna_t (n := 5) (evn_var (i := 0) rfl hv02 f0) (evna_nil Fits.nil)) (by decide)) (by decide)) fun d h => h.fit.more (by decide)) (evna_l (evn_tf (m := 190) (evna_t (ns (n := 1) "sequence") (evna_t (n := 5) (evn_var (i := 0) rfl hv02 f0) (evna_nil Fits.nil))) (by decide) (by decide))
      (evna_l (evn_tf (m := 190) (evna_t (ns (n := 1) "choice") (evna_nil Fits.nil)) (by decide) (by decide)) evna_l0))))))) (by decide)
    refine qp_asg (h3 H2 (Ex.refl _) _ fun l3 vs3 ds3 H3 e3 nl3 hds3 hL3 => ?_)
    have e3' := Ex.new (o := .lst vs3) nl3
    have hl3 : upd H3 l3 (.lst vs3) l3 = some (.lst vs3) := upd_same
    have hds3' := hds3.up e3'
    have e23 := e3.trans e3'
    generalize upd H3 l3 (.lst vs3) = H3' at e3' hl3 hds3' e23 ⊢
    have h4 := evnl_cat (σ := [some v0, some v1, some v2, some (.ref l3)]) (H := H3') (i := 3) (n := 190) (A := 7) (B := 2) rfl hl3 hds3' hL3
      (evnl_lst (N := 2) (L := AllFit 190) (evna_l (evn_tf (m := 190) (evna_t (ns (n := 1) "repeat") (evna_t (n := 5) (evn_var (i := 0) rfl (hv02.up e23) f0) (evna_t (n := 5) (evn_var (i := 0) rfl (hv02.up e23) f0) (evna_nil Fits.nil)))) (by decide) (by decide))
        (evna_l (evn_tf (m := 190) (evna_t (ns (n := 1) "sequence") (evna_t (n := 39) (evn_var (i := 1) rfl (hv1.up e23) f1') (evna_t (n := 39) (evn_var (i := 1) rfl (hv1.up e23) f1') (evna_t (n := 5) (evn_var (i := 0) rfl (hv02.up e23) f0) (evna_t (n := 5) (evn_var (i := 0) rfl (hv02.up e23) f0) (evna_t (n := 5) (evn_var (i := 0) rfl (hv02.up e23) f0) (evna_t (n := 5) (evn_var (i := 0) rfl (hv02.up e23) f0) (evna_nil Fits.nil)))))))) (by decide) (by decide)) evna_l0)) (by decide)) (by decide)
    refine qp_asg (h4 H3' (Ex.refl _) _ fun l4 vs4 ds4 H4 e4 nl4 hds4 hL4 => ?_)
    -- one more
    have e24 := e23.trans e4
    have e4' := Ex.new (o := .lst vs4) nl4
    have w0 := ((hv02.up e24).fresh nl4).up e4'
    have w1 := ((hv1.up e24).fresh nl4).up e4'
    have w2 := ((hv2.up e24).fresh nl4).up e4'
    have wl := (hds4.fresh nl4).up e4'
    have hl4 : upd H4 l4 (.lst vs4) l4 = some (.lst vs4) := upd_same
    have e24' := e24.trans e4'
    have nl2 : H2 l4 = none := fresh_back e24 nl4
    generalize upd H4 l4 (.lst vs4) = H4' at e4' w0 w1 w2 wl hl4 e24' ⊢
    have len4 := hds4.length
    have len4' := hL4.2
    refine ⟨.ref l4, rfl, .inl ⟨rfl, _, sq_of hl4⟩, v1, rfl, v1, rfl, v0, rfl, v0, rfl, v0, rfl, v2, rfl, sz_of (by show 7 ≤ 100000; decide), fun a5 na5 => ⟨l4, vs4, .ref a5, rfl, rfl, (Ex.new na5) _ _ hl4, sz_lt (by omega), ?_⟩⟩
    have e5 := Ex.new (o := .tup [.str "sequence", v1, v1, v0, v0, v0, v2]) na5
    have ne5 : a5 ≠ l4 := fun z => by
      rw [z, hl4] at na5
      cases na5
    have w5 : Dd (some ⟨l4, fun _ => False⟩) (upd H4' a5 (.tup [.str "sequence", v1, v1, v0, v0, v0, v2])) (.ref a5) (.tuple [.str "sequence", d1, d1, d0, d0, d0, d2]) :=
      .tup (fun z => z.elim ne5 id) upd_same (.cons (.str _) (.cons (w1.up e5) (.cons (w1.up e5) (.cons (w0.up e5) (.cons (w0.up e5) (.cons (w0.up e5) (.cons (w2.up e5) .nil)))))))
    have f5 : Fit 190 (.tuple [.str "sequence", d1, d1, d0, d0, d0, d2]) := (Fits.cons (fit_b (n := 1) (by decide +kernel : fits 1 "sequence" = true)) (Fits.cons f1' (Fits.cons f1' (Fits.cons f0 (Fits.cons f0 (Fits.cons f0 (Fits.cons f2 Fits.nil))))))).tup.more (by decide)
    have xp := Xp.upd (p := l4) (H := upd H4' a5 (.tup [.str "sequence", v1, v1, v0, v0, v0, v2])) (o := .lst (vs4 ++ [.ref a5]))
    have u0 := ((w0.up e5).xp (q := ⟨l4, fun _ => False⟩) xp).any
    have u2 := ((w2.up e5).xp (q := ⟨l4, fun _ => False⟩) xp).any
    have ul := (((wl.up e5).append (.cons w5 .nil)).xp (q := ⟨l4, fun _ => False⟩) xp).any
    have e26 : Ex H2 (upd (upd H4' a5 (.tup [.str "sequence", v1, v1, v0, v0, v0, v2])) l4 (.lst (vs4 ++ [.ref a5]))) := Ex.mut (e24'.trans e5) nl2
    have hl6 : upd (upd H4' a5 (.tup [.str "sequence", v1, v1, v0, v0, v0, v2])) l4 (.lst (vs4 ++ [.ref a5])) l4 = some (.lst (vs4 ++ [.ref a5])) := upd_same
    have hL6 : AllFit 190 (ds4 ++ [.tuple [.str "sequence", d1, d1, d0, d0, d0, d2]]) ∧ (ds4 ++ [PyData.tuple [.str "sequence", d1, d1, d0, d0, d0, d2]]).length = 10 := ⟨hL4.1.app (.cons f5 .nil), by rw [List.length_append, len4']; rfl⟩
    generalize upd (upd H4' a5 (.tup [.str "sequence", v1, v1, v0, v0, v0, v2])) l4 (.lst (vs4 ++ [.ref a5])) = H6 at xp u0 u2 ul e26 hl6 ⊢
    -- nested
    have nest : ∀ {H' : Hp} {σ : L2.St} {v : V} {d : PyData} {n t i : Nat}, Dd none H' v d → Fit n d → σ[i]? = some (some v) → t ≤ 10 → n ≤ 100 → EvN (tCall spNest [] E0 (tCons (tVar i) (tCons (tC (.int (t : Int))) tNil))) σ H' (Fit 190) := fun hd hf hi ht hn H7 e7 Q q =>
      ⟨_, hi, _, _, _, _, rfl, ht, by omega, hd.up e7, hf, fun u e H8 e8 hu he => q u e H8 e8 hu (he.more (by omega))⟩
    have h7 := evnl_cat (σ := [some v0, some v1, some v2, some (.ref l4)]) (H := H6) (i := 3) (n := 190) (A := 10) (B := 4) rfl hl6 ul hL6
      (evnl_lst (N := 4) (L := AllFit 190) (evna_l (nest (i := 0) (t := 7) u0 f0 rfl (by decide) (by decide)) (evna_l (nest (i := 0) (t := 8) u0 f0 rfl (by decide) (by decide)) (evna_l (nest (i := 2) (t := 6) u2 f2 rfl (by decide) (by decide)) (evna_l (nest (i := 2) (t := 7) u2 f2 rfl (by decide) (by decide)) evna_l0)))) (by decide)) (by decide)
    refine qp_asg (h7 H6 (Ex.refl _) _ fun l7 vs7 ds7 H7 e7 nl7 hds7 hL7 => ?_)
    have e7' := Ex.new (o := .lst vs7) nl7
    have hl7 : upd H7 l7 (.lst vs7) l7 = some (.lst vs7) := upd_same
    have hds7' := hds7.up e7'
    have e67 := e7.trans e7'
    generalize upd H7 l7 (.lst vs7) = H7' at e7' hl7 hds7' e67 ⊢
    have h8 := evnl_cat (σ := [some v0, some v1, some v2, some (.ref l7)]) (H := H7') (i := 3) (n := 190) (A := 14) (B := 8) rfl hl7 hds7' hL7
      (evnl_lst (N := 8) (L := AllFit 190) (evna_l (evn_tf (m := 190) (evna_nil Fits.nil) (by decide) (by decide)) (evna_l (evn_non (fit_non.more (by decide))) (evna_l (evn_bl ((fit_bl true).more (by decide))) (evna_l (evn_int (z := 3) ((fit_int (i := 3) (by decide) (by decide +kernel)).more (by decide))) (evna_l (ns "token")
        (evna_l (evn_tf (m := 190) (evna_t (ns (n := 1) "token") (evna_nil Fits.nil)) (by decide) (by decide)) (evna_l (evn_tf (m := 190) (evna_t (ns (n := 1) "token") (evna_t (ns (n := 1) "A") (evna_nil Fits.nil))) (by decide) (by decide)) (evna_l (evn_tf (m := 190) (evna_t (ns (n := 1) "block") (evna_t (ns (n := 1) "") (evna_nil Fits.nil))) (by decide) (by decide)) evna_l0)))))))) (by decide)) (by decide)
    refine qp_asg (h8 H7' (Ex.refl _) _ fun l8 vs8 ds8 H8 e8 nl8 hds8 hL8 => ?_)
    have e8' := Ex.new (o := .lst vs8) nl8
    have hl8 : upd H8 l8 (.lst vs8) l8 = some (.lst vs8) := upd_same
    have hds8' := hds8.up e8'
    have e68 := (e67.trans e8).trans e8'
    generalize upd H8 l8 (.lst vs8) = H8' at e8' hl8 hds8' e68 ⊢
    have h9 := evnl_cat (σ := [some v0, some v1, some v2, some (.ref l8)]) (H := H8') (i := 3) (n := 190) (A := 22) (B := 3) rfl hl8 hds8' hL8
      (evnl_lst (N := 3) (L := AllFit 190) (evna_l (evn_tf (m := 190) (evna_t (ns (n := 1) "other") (evna_t (n := 5) (evn_var (i := 0) rfl (u0.up e68) f0) (evna_nil Fits.nil))) (by decide) (by decide)) (evna_l (evn_lst1 (m := 190) (evna_t (n := 5) (evn_var (i := 0) rfl (u0.up e68) f0) (evna_nil Fits.nil)) (by decide) (by decide)) (evna_l (evn_imp evn_dk0 fun d h => h.more (by decide)) evna_l0))) (by decide)) (by decide)
    refine ret_of (h9 H8' (Ex.refl _) _ fun l9 vs9 ds9 H9 e9 nl9 hds9 hL9 => ?_)
    have e9' := Ex.new (o := .lst vs9) nl9
    have hlen9 := hL9.2
    exact q l9 vs9 ds9 _ ((((e1.trans e2).trans e26).trans e68).trans (e9.trans e9')) upd_same (hds9.up e9') hL9.1 (by omega)
end
end K02
namespace K02
open PySem PySem.Spec PyProof.Rows L2 Evl Es
abbrev nLaw : List Str := ["_law_script", "_law_thing", "_law_k"]
theorem scLaw : FnScope nLaw ["_law_script"] (defScope sLaw) := ⟨rfl, rfl, rfl, by decide +kernel, rfl, by decide +kernel, by decide +kernel⟩
section
variable {P : Program} {w : World} {K : PySem.W.Frag} {mg : Str → Option Value} {base : Heap} {aL fTok fFit fCnt fIsE fPot fTake fPick fExpr fOdd fBent fLTok fLCnt fLIsE fNest fHand fAsked fRight : Addr} {dTok dFit dCnt dIsE dPot dTake dPick dExpr dOdd dBent dLTok dLCnt dLIsE dNest dHand dAsked dRight : FuncData}
def spLaw (K : PySem.W.Frag) : Sp := fun vs H Q _ => ∃ (a : Addr) (ns : List Int), vs = [.ref a] ∧ SqL K H a (ns.map V.int) ∧ ∀ H', Q (.bl true) H'
theorem ok_law {f : Addr} {fd : FuncData} (F : Fun K "law" "law" sLaw f fd) (T : Top K mg aL fTok fFit fCnt fIsE fPot fTake fPick fExpr fOdd fBent fLTok fLCnt fLIsE fNest fHand fAsked fRight dTok dFit dCnt dIsE dPot dTake dPick dExpr dOdd dBent dLTok dLCnt dLIsE dNest dHand dAsked dRight) : GnOk P w K mg base 14 f fd ["_law_script"] (spLaw K) := by
  have b1 : Binds K dPot ["_law_script", "_law_k"] [] := T.Pot.binds fun _ _ _ _ _ _ us hl => match us, hl with | [_, _], _ => rfl
  have b2 : Binds K dRight ["_law_pot_here"] [] := T.Right.binds fun _ _ _ _ _ _ us hl => match us, hl with | [_], _ => rfl
  have b3 : Binds K dAsked ["_law_thing"] [] := T.Asked.binds fun _ _ _ _ _ _ us hl => match us, hl with | [_], _ => rfl
  have b4 : Binds K dHand [] [] := T.Hand.binds fun _ _ _ _ _ _ us hl => match us, hl with | [], _ => rfl
  have b5 : Binds K dNest ["_law_expression_here", "_law_times"] [] := T.Nest.binds fun _ _ _ _ _ _ us hl => match us, hl with | [_, _], _ => rfl
  have G1 : FnOk P w K mg base CX0 13 fPot dPot ["_law_script", "_law_k"] (spPot K) := ok_pot T.Pot T.zlen T.zabs
  have G2 : GnOk P w K mg base 13 fRight dRight ["_law_pot_here"] spRight := ok_right T
  have G3 : GnOk P w K mg base 13 fAsked dAsked ["_law_thing"] spAsked := (ok_asked T).mono (by decide)
  have G4 : FnOk P w K mg base CX0 13 fHand dHand [] spHand := ok_hand T.Hand (ok_nest T.Nest T.zrange) b5 T.gNest T.Nest.kp
  refine gn_of (N := nLaw) F scLaw (fun vs H Q E h => ?_) (fun cd A out s H vs Q E hg hr h => ?_)
  · obtain ⟨a, ns, rfl, _⟩ := h
    rfl
  · obtain ⟨a, ns, rfl, hS, q⟩ := h
    refine ⟨_, pss_cons (ps_if (pt_not (pt_val (pe_callB (cr_all rfl) (by rfl) T.zall boot_all (pa_cons (pe_lc (own := [("_law_thing", 1)]) (g := gName 1) (tt := tYes) rfl scLaw.nd (pi_list (pe_call0 G4 hr (by rfl) T.gHand T.Hand.kp b4 .nil pass0))
          (blkOk_by (N := nLaw) (sc := defScope sLaw) (own := [("_law_thing", 1)]) (by decide +kernel)) (fun _ _ _ _ _ => pg_name (i := 1) scLaw.nd rfl (Or.inl rfl)) (fun _ _ _ _ _ => pts_nil)
          (fun _ _ _ _ _ => pe_callG G3 hg hr (by rfl) T.gAsked T.Asked.kp b3 (pa_cons (pv 1) pa_nil))) pa_nil)))) (pss_one (ps_ret pe_bl)) pss_nil)
      (pss_one (ps_ret (pe_callB (cr_all rfl) (by rfl) T.zall boot_all (pa_cons (pe_lc (own := [("_law_k", 2)]) (g := gName 2) (tt := tYes) rfl scLaw.nd (pi_range1 (by rfl) T.zrange (pa_cons (pe_callB (call_max2 rfl) (by rfl) T.zmax boot_max (pa_cons pe_int (pa_cons (pe_callB (call_min2 rfl) (by rfl) T.zmin boot_min (pa_cons pe_int (pa_cons (pe_callB call_len_seq (by rfl) T.zlen PySem.boot_len (pa_cons (pv 0) pa_nil)) pa_nil))) pa_nil))) pa_nil))
          (blkOk_by (N := nLaw) (sc := defScope sLaw) (own := [("_law_k", 2)]) (by decide +kernel)) (fun _ _ _ _ _ => pg_name (i := 2) scLaw.nd rfl (Or.inl rfl)) (fun _ _ _ _ _ => pts_nil)
          (fun _ _ _ _ _ => pe_callG G2 hg hr (by rfl) T.gRight T.Right.kp b2 (pa_cons (pe_call G1 hr (by rfl) T.gPot T.Pot.kp b1 .nil pass0 (pa_cons (pv 0) (pa_cons (pv 2) pa_nil))) pa_nil))) pa_nil)))), ?_⟩
    refine ⟨rfl, fun l vs ds H1 e1 hl hds haf hlen => ⟨l, rfl, ⟨_, sq_of hl⟩, fun D nD => ?_⟩⟩
    have hvl := hds.length
    refine lc_list (g := gName 1) (tt := tYes) (vs := [1]) (fun j H' => Ex H1 H' ∧ H' D = some (.lst ((List.replicate j true).map V.bl))) ⟨Ex.new nD, upd_same⟩ (fun j H' _ y => sq_of (y.1 _ _ hl)) ?_ ?_
    · rintro j u H' hu ⟨ej, hD⟩
      obtain ⟨d, hdj, hud⟩ := hds.get hu
      refine ⟨rfl, u, rfl, _, u, d, rfl, hud.up ej, haf d (List.mem_of_getElem? hdj), fun H2 e2 => ⟨_, e2 _ _ hD, ?_, Ex.mut (ej.trans e2) nD, ?_⟩⟩
      · rw [List.length_map, List.length_replicate]
        have hju := (List.getElem?_eq_some_iff.mp hu).1
        exact sz_lt (by omega)
      · rw [upd_same, List.replicate_succ', List.map_append]
        rfl
    rintro H2 ⟨e2, hD⟩
    refine ⟨D, List.replicate vs.length true, rfl, sq_of hD, _, rfl, ?_⟩
    rw [rep_all]
    refine iteF ?_
    have hS2 := ex_l (e1.trans e2) hS
    obtain ⟨n, hn0, hn3, hn⟩ : ∃ n : Int, 0 ≤ n ∧ n ≤ 3 ∧ (if (if ((ns.map V.int).length : Int) < 3 then ((ns.map V.int).length : Int) else 3) > 1 then (if ((ns.map V.int).length : Int) < 3 then ((ns.map V.int).length : Int) else 3) else 1) = n := by
      refine ⟨_, ?_, ?_, rfl⟩ <;> (split <;> split <;> omega)
    refine ⟨.ref a, rfl, a, _, rfl, .inl hS2, 3, _, rfl, 1, _, rfl, _, rfl, ?_⟩
    rw [hn]
    refine ⟨by omega, by omega, fun D2 nD2 => ?_⟩
    refine lc_range (lo := 0) (n := n.toNat) (g := gName 2) (tt := tYes) (vs := [2]) (fun i H' => Ex H2 H' ∧ H' D2 = some (.lst ((List.replicate i true).map V.bl))) ⟨Ex.new nD2, upd_same⟩ ?_ ?_
    · rintro i H3 hi ⟨e3, hD2⟩
      refine ⟨rfl, .ref a, rfl, .int (0 + (i : Int)), rfl, a, i, ns, by rw [Int.zero_add]; rfl, by omega, ex_l e3 hS2, fun p H4 np e4 P4 => ⟨p, rfl, P4, fun H5 x5 => ?_⟩⟩
      have e35 : Ex H3 H5 := fun b o hb => x5 b o (ne_of_none hb np) (e4 b o hb)
      refine ⟨_, e35 _ _ hD2, ?_, Ex.mut (e3.trans e35) nD2, ?_⟩
      · rw [List.length_map, List.length_replicate]
        exact sz_lt (by omega)
      · rw [upd_same, List.replicate_succ', List.map_append]
        rfl
    rintro H3 ⟨e3, hD2⟩
    refine ⟨D2, List.replicate n.toNat true, rfl, sq_of hD2, ?_⟩
    rw [rep_all]
    exact q H3
end
theorem all_mk {l : PySem.W.OpenLaw} {w : World} {K : PySem.W.Frag} {h : Heap} {mg : Str → Option Value} {fa : Addr} (X : K.In h) (G : h.Ns mainGlobals mg) (hfa : mg "law" = some (.ref fa))
    {f0 : Addr} {od0 an0 : Option Addr} {sl0 : Array (Option Value)} {oc0 kV0 dc0 pm0 cd0 ct0 : Value}
    {f1 : Addr} {od1 an1 : Option Addr} {sl1 : Array (Option Value)} {oc1 kV1 dc1 pm1 cd1 ct1 : Value}
    {f2 : Addr} {od2 an2 : Option Addr} {sl2 : Array (Option Value)} {oc2 kV2 dc2 pm2 cd2 ct2 : Value}
    {f3 : Addr} {od3 an3 : Option Addr} {sl3 : Array (Option Value)} {oc3 kV3 dc3 pm3 cd3 ct3 : Value}
    {f4 : Addr} {od4 an4 : Option Addr} {sl4 : Array (Option Value)} {oc4 kV4 dc4 pm4 cd4 ct4 : Value}
    {f5 : Addr} {od5 an5 : Option Addr} {sl5 : Array (Option Value)} {oc5 kV5 dc5 pm5 cd5 ct5 : Value}
    {f6 : Addr} {od6 an6 : Option Addr} {sl6 : Array (Option Value)} {oc6 kV6 dc6 pm6 cd6 ct6 : Value}
    {f7 : Addr} {od7 an7 : Option Addr} {sl7 : Array (Option Value)} {oc7 kV7 dc7 pm7 cd7 ct7 : Value}
    {f8 : Addr} {od8 an8 : Option Addr} {sl8 : Array (Option Value)} {oc8 kV8 dc8 pm8 cd8 ct8 : Value}
    {f9 : Addr} {od9 an9 : Option Addr} {sl9 : Array (Option Value)} {oc9 kV9 dc9 pm9 cd9 ct9 : Value}
    {f10 : Addr} {od10 an10 : Option Addr} {sl10 : Array (Option Value)} {oc10 kV10 dc10 pm10 cd10 ct10 : Value}
    {f11 : Addr} {od11 an11 : Option Addr} {sl11 : Array (Option Value)} {oc11 kV11 dc11 pm11 cd11 ct11 : Value}
    {f12 : Addr} {od12 an12 : Option Addr} {sl12 : Array (Option Value)} {oc12 kV12 dc12 pm12 cd12 ct12 : Value}
    {f13 : Addr} {od13 an13 : Option Addr} {sl13 : Array (Option Value)} {oc13 kV13 dc13 pm13 cd13 ct13 : Value}
    {f14 : Addr} {od14 an14 : Option Addr} {sl14 : Array (Option Value)} {oc14 kV14 dc14 pm14 cd14 ct14 : Value}
    {f15 : Addr} {od15 an15 : Option Addr} {sl15 : Array (Option Value)} {oc15 kV15 dc15 pm15 cd15 ct15 : Value}
    {f16 : Addr} {od16 an16 : Option Addr} {sl16 : Array (Option Value)} {oc16 kV16 dc16 pm16 cd16 ct16 : Value}
    {f17 : Addr} {od17 an17 : Option Addr} {sl17 : Array (Option Value)} {oc17 kV17 dc17 pm17 cd17 ct17 : Value}
    {t0 : Tok}
    {t1 : Tok}
    {t2 : Tok}
    {t3 : Tok}
    {t4 : Tok}
    {u0 : Addr} {ud0 : Option Addr} {un0 : Nat} {us0 : Array (Option Value)} {ut0_0 : Tok} {ut0_1 : Tok}
    (a0 : PySem.W.nsIn K mainGlobals "is_token" = some (some (.ref f0))) (l0 : K.lookup f0 = some ⟨oc0, od0, .func (PySem.W.fnOf "is_token" "is_token" (defArgs sTok) (defBody sTok) (defScope sTok) .none kV0 dc0 pm0 an0 cd0 ct0), sl0⟩)
      (c0 : PySem.W.codeIn K cd0 "is_token" = true) (k0 : PySem.W.keepIn K (.ref f0) = true)
    (a1 : PySem.W.nsIn K mainGlobals "has_fitting_parts" = some (some (.ref f1))) (l1 : K.lookup f1 = some ⟨oc1, od1, .func (PySem.W.fnOf "has_fitting_parts" "has_fitting_parts" (defArgs sFit) (defBody sFit) (defScope sFit) .none kV1 dc1 pm1 an1 cd1 ct1), sl1⟩)
      (c1 : PySem.W.codeIn K cd1 "has_fitting_parts" = true) (k1 : PySem.W.keepIn K (.ref f1) = true)
    (a2 : PySem.W.nsIn K mainGlobals "count_leaves" = some (some (.ref f2))) (l2 : K.lookup f2 = some ⟨oc2, od2, .func (PySem.W.fnOf "count_leaves" "count_leaves" (defArgs sCnt) (defBody sCnt) (defScope sCnt) .none kV2 dc2 pm2 an2 cd2 ct2), sl2⟩)
      (c2 : PySem.W.codeIn K cd2 "count_leaves" = true) (k2 : PySem.W.keepIn K (.ref f2) = true)
    (a3 : PySem.W.nsIn K mainGlobals "is_expression" = some (some (.ref f3))) (l3 : K.lookup f3 = some ⟨oc3, od3, .func (PySem.W.fnOf "is_expression" "is_expression" (defArgs sIsE) (defBody sIsE) (defScope sIsE) .none kV3 dc3 pm3 an3 cd3 ct3), sl3⟩)
      (c3 : PySem.W.codeIn K cd3 "is_expression" = true) (k3 : PySem.W.keepIn K (.ref f3) = true)
    (a4 : PySem.W.nsIn K mainGlobals "_law_pot" = some (some (.ref f4))) (l4 : K.lookup f4 = some ⟨oc4, od4, .func (PySem.W.fnOf "_law_pot" "_law_pot" (defArgs sPot) (defBody sPot) (defScope sPot) .none kV4 dc4 pm4 an4 cd4 ct4), sl4⟩)
      (c4 : PySem.W.codeIn K cd4 "_law_pot" = true) (k4 : PySem.W.keepIn K (.ref f4) = true)
    (a5 : PySem.W.nsIn K mainGlobals "_law_take" = some (some (.ref f5))) (l5 : K.lookup f5 = some ⟨oc5, od5, .func (PySem.W.fnOf "_law_take" "_law_take" (defArgs sTake) (defBody sTake) (defScope sTake) .none kV5 dc5 pm5 an5 cd5 ct5), sl5⟩)
      (c5 : PySem.W.codeIn K cd5 "_law_take" = true) (k5 : PySem.W.keepIn K (.ref f5) = true)
    (a6 : PySem.W.nsIn K mainGlobals "_law_pick" = some (some (.ref f6))) (l6 : K.lookup f6 = some ⟨oc6, od6, .func (PySem.W.fnOf "_law_pick" "_law_pick" (defArgs sPick) (defBody sPick) (defScope sPick) .none kV6 dc6 pm6 an6 cd6 ct6), sl6⟩)
      (c6 : PySem.W.codeIn K cd6 "_law_pick" = true) (k6 : PySem.W.keepIn K (.ref f6) = true)
    (a7 : PySem.W.nsIn K mainGlobals "_law_expression" = some (some (.ref f7))) (l7 : K.lookup f7 = some ⟨oc7, od7, .func (PySem.W.fnOf "_law_expression" "_law_expression" (defArgs sExpr) (defBody sExpr) (defScope sExpr) .none kV7 dc7 pm7 an7 cd7 ct7), sl7⟩)
      (c7 : PySem.W.codeIn K cd7 "_law_expression" = true) (k7 : PySem.W.keepIn K (.ref f7) = true)
    (a8 : PySem.W.nsIn K mainGlobals "_law_odd" = some (some (.ref f8))) (l8 : K.lookup f8 = some ⟨oc8, od8, .func (PySem.W.fnOf "_law_odd" "_law_odd" (defArgs sOdd) (defBody sOdd) (defScope sOdd) .none kV8 dc8 pm8 an8 cd8 ct8), sl8⟩)
      (c8 : PySem.W.codeIn K cd8 "_law_odd" = true) (k8 : PySem.W.keepIn K (.ref f8) = true)
    (a9 : PySem.W.nsIn K mainGlobals "_law_bent" = some (some (.ref f9))) (l9 : K.lookup f9 = some ⟨oc9, od9, .func (PySem.W.fnOf "_law_bent" "_law_bent" (defArgs sBent) (defBody sBent) (defScope sBent) .none kV9 dc9 pm9 an9 cd9 ct9), sl9⟩)
      (c9 : PySem.W.codeIn K cd9 "_law_bent" = true) (k9 : PySem.W.keepIn K (.ref f9) = true)
    (a10 : PySem.W.nsIn K mainGlobals "_law_is_token" = some (some (.ref f10))) (l10 : K.lookup f10 = some ⟨oc10, od10, .func (PySem.W.fnOf "_law_is_token" "_law_is_token" (defArgs sLTok) (defBody sLTok) (defScope sLTok) .none kV10 dc10 pm10 an10 cd10 ct10), sl10⟩)
      (c10 : PySem.W.codeIn K cd10 "_law_is_token" = true) (k10 : PySem.W.keepIn K (.ref f10) = true)
    (a11 : PySem.W.nsIn K mainGlobals "_law_leaf_count" = some (some (.ref f11))) (l11 : K.lookup f11 = some ⟨oc11, od11, .func (PySem.W.fnOf "_law_leaf_count" "_law_leaf_count" (defArgs sLCnt) (defBody sLCnt) (defScope sLCnt) .none kV11 dc11 pm11 an11 cd11 ct11), sl11⟩)
      (c11 : PySem.W.codeIn K cd11 "_law_leaf_count" = true) (k11 : PySem.W.keepIn K (.ref f11) = true)
    (a12 : PySem.W.nsIn K mainGlobals "_law_is_expression" = some (some (.ref f12))) (l12 : K.lookup f12 = some ⟨oc12, od12, .func (PySem.W.fnOf "_law_is_expression" "_law_is_expression" (defArgs sLIsE) (defBody sLIsE) (defScope sLIsE) .none kV12 dc12 pm12 an12 cd12 ct12), sl12⟩)
      (c12 : PySem.W.codeIn K cd12 "_law_is_expression" = true) (k12 : PySem.W.keepIn K (.ref f12) = true)
    (a13 : PySem.W.nsIn K mainGlobals "_law_nested" = some (some (.ref f13))) (l13 : K.lookup f13 = some ⟨oc13, od13, .func (PySem.W.fnOf "_law_nested" "_law_nested" (defArgs sNest) (defBody sNest) (defScope sNest) .none kV13 dc13 pm13 an13 cd13 ct13), sl13⟩)
      (c13 : PySem.W.codeIn K cd13 "_law_nested" = true) (k13 : PySem.W.keepIn K (.ref f13) = true)
    (a14 : PySem.W.nsIn K mainGlobals "_law_by_hand" = some (some (.ref f14))) (l14 : K.lookup f14 = some ⟨oc14, od14, .func (PySem.W.fnOf "_law_by_hand" "_law_by_hand" (defArgs sHand) (defBody sHand) (defScope sHand) .none kV14 dc14 pm14 an14 cd14 ct14), sl14⟩)
      (c14 : PySem.W.codeIn K cd14 "_law_by_hand" = true) (k14 : PySem.W.keepIn K (.ref f14) = true)
    (a15 : PySem.W.nsIn K mainGlobals "_law_asked" = some (some (.ref f15))) (l15 : K.lookup f15 = some ⟨oc15, od15, .func (PySem.W.fnOf "_law_asked" "_law_asked" (defArgs sAsked) (defBody sAsked) (defScope sAsked) .none kV15 dc15 pm15 an15 cd15 ct15), sl15⟩)
      (c15 : PySem.W.codeIn K cd15 "_law_asked" = true) (k15 : PySem.W.keepIn K (.ref f15) = true)
    (a16 : PySem.W.nsIn K mainGlobals "_law_right" = some (some (.ref f16))) (l16 : K.lookup f16 = some ⟨oc16, od16, .func (PySem.W.fnOf "_law_right" "_law_right" (defArgs sRight) (defBody sRight) (defScope sRight) .none kV16 dc16 pm16 an16 cd16 ct16), sl16⟩)
      (c16 : PySem.W.codeIn K cd16 "_law_right" = true) (k16 : PySem.W.keepIn K (.ref f16) = true)
    (a17 : PySem.W.nsIn K mainGlobals "law" = some (some (.ref f17))) (l17 : K.lookup f17 = some ⟨oc17, od17, .func (PySem.W.fnOf "law" "law" (defArgs sLaw) (defBody sLaw) (defScope sLaw) .none kV17 dc17 pm17 an17 cd17 ct17), sl17⟩)
      (c17 : PySem.W.codeIn K cd17 "law" = true) (k17 : PySem.W.keepIn K (.ref f17) = true)
    (v0 : PySem.W.nsIn K mainGlobals "LETTERS" = some (some (.str abc t0)))
    (v1 : PySem.W.nsIn K mainGlobals "MOST_LETTERS" = some (some (.int 8 t1)))
    (v2 : PySem.W.nsIn K mainGlobals "MOST_LEAVES" = some (some (.int 16 t2)))
    (v3 : PySem.W.nsIn K mainGlobals "MOST_LEVELS" = some (some (.int 8 t3)))
    (v4 : PySem.W.nsIn K mainGlobals "MOST_PARTS" = some (some (.int 6 t4)))
    (w0 : PySem.W.nsIn K mainGlobals "LEAF_KINDS" = some (some (.ref u0))) (x0 : K.lookup u0 = some ⟨.type "tuple", ud0, .seq #[.str "token" ut0_0, .str "block" ut0_1] un0, us0⟩)
    (z0 : PySem.W.nsIn K mainGlobals "isinstance" = some none)
    (z1 : PySem.W.nsIn K mainGlobals "str" = some none)
    (z2 : PySem.W.nsIn K mainGlobals "len" = some none)
    (z3 : PySem.W.nsIn K mainGlobals "all" = some none)
    (z4 : PySem.W.nsIn K mainGlobals "any" = some none)
    (z5 : PySem.W.nsIn K mainGlobals "abs" = some none)
    (z6 : PySem.W.nsIn K mainGlobals "range" = some none)
    (z7 : PySem.W.nsIn K mainGlobals "max" = some none)
    (z8 : PySem.W.nsIn K mainGlobals "min" = some none)
    (z9 : PySem.W.nsIn K mainGlobals "repr" = some none)
    (z10 : PySem.W.nsIn K mainGlobals "tuple" = some none)
    (z11 : PySem.W.nsIn K mainGlobals "list" = some none)
    (z12 : PySem.W.nsIn K mainGlobals "sum" = some none) :
    ∃ fd : FuncData, (∀ (s : Shared) (v : Value), BindsTo s fd ⟨[v], []⟩ [("_law_script", v)]) ∧ ∀ bs : Heap, K.In bs → bs.Ns mainGlobals mg → GnOk l.prog w K mg bs 14 fa fd ["_law_script"] (spLaw K) := by
  have e := hfa.symm.trans (PySem.W.mg_of X G a17)
  cases e
  have F0 := fun_mk (st := sTok) l0 c0 k0
  have F1 := fun_mk (st := sFit) l1 c1 k1
  have F2 := fun_mk (st := sCnt) l2 c2 k2
  have F3 := fun_mk (st := sIsE) l3 c3 k3
  have F4 := fun_mk (st := sPot) l4 c4 k4
  have F5 := fun_mk (st := sTake) l5 c5 k5
  have F6 := fun_mk (st := sPick) l6 c6 k6
  have F7 := fun_mk (st := sExpr) l7 c7 k7
  have F8 := fun_mk (st := sOdd) l8 c8 k8
  have F9 := fun_mk (st := sBent) l9 c9 k9
  have F10 := fun_mk (st := sLTok) l10 c10 k10
  have F11 := fun_mk (st := sLCnt) l11 c11 k11
  have F12 := fun_mk (st := sLIsE) l12 c12 k12
  have F13 := fun_mk (st := sNest) l13 c13 k13
  have F14 := fun_mk (st := sHand) l14 c14 k14
  have F15 := fun_mk (st := sAsked) l15 c15 k15
  have F16 := fun_mk (st := sRight) l16 c16 k16
  have F17 := fun_mk (st := sLaw) l17 c17 k17
  exact ⟨_, fun s v => .of_eq rfl, fun bs _ _ => ok_law F17 ⟨F0, F1, F2, F3, F4, F5, F6, F7, F8, F9, F10, F11, F12, F13, F14, F15, F16, PySem.W.mg_of X G a0, PySem.W.mg_of X G a1, PySem.W.mg_of X G a2, PySem.W.mg_of X G a3, PySem.W.mg_of X G a4, PySem.W.mg_of X G a5, PySem.W.mg_of X G a6, PySem.W.mg_of X G a7, PySem.W.mg_of X G a8, PySem.W.mg_of X G a9, PySem.W.mg_of X G a10, PySem.W.mg_of X G a11, PySem.W.mg_of X G a12, PySem.W.mg_of X G a13, PySem.W.mg_of X G a14, PySem.W.mg_of X G a15, PySem.W.mg_of X G a16, ⟨_, PySem.W.mg_of X G v0⟩, ⟨_, PySem.W.mg_of X G v1⟩, ⟨_, PySem.W.mg_of X G v2⟩, ⟨_, PySem.W.mg_of X G v3⟩, ⟨_, PySem.W.mg_of X G v4⟩, (fun _ => .inr ⟨_, _, _, x0, rfl, rfl, by show 2 ≤ sizeLine; decide, (.cons ⟨_, rfl⟩ (.cons ⟨_, rfl⟩ .nil))⟩), PySem.W.mg_of X G w0, PySem.W.mg_none_of X G z0, PySem.W.mg_none_of X G z1, PySem.W.mg_none_of X G z2, PySem.W.mg_none_of X G z3, PySem.W.mg_none_of X G z4, PySem.W.mg_none_of X G z5, PySem.W.mg_none_of X G z6, PySem.W.mg_none_of X G z7, PySem.W.mg_none_of X G z8, PySem.W.mg_none_of X G z9, PySem.W.mg_none_of X G z10, PySem.W.mg_none_of X G z11, PySem.W.mg_none_of X G z12⟩⟩
end K02
open PySem PySem.W PyProof.Rows
set_option maxHeartbeats 0 in
theorem PySem.Challenge.cw_errorspans_k02_expressions_of_any_value_holds : PySem.Challenge.rw_errorspans_k02_expressions_of_any_value.Holds := by
  w_on; o_law; k_head; (case hw => w_witness2)
  k_fill
  refine Es.walk_ofG (l := PySem.Challenge.rw_errorspans_k02_expressions_of_any_value) (n := 63) (k := 14) (x := "_law_script") (sp := K02.spLaw) rfl (by decide) rfl ⟨rfl, by decide, by decide⟩ (fun w h Y => PySem.W.kIn_of Y) ?F (fun _ _ a ns _ _ hS => ⟨a, ns, rfl, hS, fun _ => rfl⟩)
  case F =>
    intro w mg fa h KX G hmg
    refine' K02.all_mk KX G hmg ?a0 ?l0 ?c0 ?k0 ?a1 ?l1 ?c1 ?k1 ?a2 ?l2 ?c2 ?k2 ?a3 ?l3 ?c3 ?k3 ?a4 ?l4 ?c4 ?k4 ?a5 ?l5 ?c5 ?k5 ?a6 ?l6 ?c6 ?k6 ?a7 ?l7 ?c7 ?k7 ?a8 ?l8 ?c8 ?k8 ?a9 ?l9 ?c9 ?k9 ?a10 ?l10 ?c10 ?k10 ?a11 ?l11 ?c11 ?k11 ?a12 ?l12 ?c12 ?k12 ?a13 ?l13 ?c13 ?k13 ?a14 ?l14 ?c14 ?k14 ?a15 ?l15 ?c15 ?k15 ?a16 ?l16 ?c16 ?k16 ?a17 ?l17 ?c17 ?k17 ?v0 ?v1 ?v2 ?v3 ?v4 ?w0 ?x0 ?z0 ?z1 ?z2 ?z3 ?z4 ?z5 ?z6 ?z7 ?z8 ?z9 ?z10 ?z11 ?z12
    (case a0 => k_is); (case l0 => k_is); (case c0 => k_is); (case k0 => k_is); (case a1 => k_is); (case l1 => k_is); (case c1 => k_is); (case k1 => k_is)
    (case a2 => k_is); (case l2 => k_is); (case c2 => k_is); (case k2 => k_is); (case a3 => k_is); (case l3 => k_is); (case c3 => k_is); (case k3 => k_is)
    (case a4 => k_is); (case l4 => k_is); (case c4 => k_is); (case k4 => k_is); (case a5 => k_is); (case l5 => k_is); (case c5 => k_is); (case k5 => k_is)
    (case a6 => k_is); (case l6 => k_is); (case c6 => k_is); (case k6 => k_is); (case a7 => k_is); (case l7 => k_is); (case c7 => k_is); (case k7 => k_is)
    (case a8 => k_is); (case l8 => k_is); (case c8 => k_is); (case k8 => k_is); (case a9 => k_is); (case l9 => k_is); (case c9 => k_is); (case k9 => k_is)
    (case a10 => k_is); (case l10 => k_is); (case c10 => k_is); (case k10 => k_is); (case a11 => k_is); (case l11 => k_is); (case c11 => k_is); (case k11 => k_is)
    (case a12 => k_is); (case l12 => k_is); (case c12 => k_is); (case k12 => k_is); (case a13 => k_is); (case l13 => k_is); (case c13 => k_is); (case k13 => k_is)
    (case a14 => k_is); (case l14 => k_is); (case c14 => k_is); (case k14 => k_is); (case a15 => k_is); (case l15 => k_is); (case c15 => k_is); (case k15 => k_is)
    (case a16 => k_is); (case l16 => k_is); (case c16 => k_is); (case k16 => k_is); (case a17 => k_is); (case l17 => k_is); (case c17 => k_is); (case k17 => k_is)
    (case v0 => k_is); (case v1 => k_is); (case v2 => k_is); (case v3 => k_is); (case v4 => k_is); (case w0 => k_is); (case x0 => k_is); (case z0 => k_is)
    (case z1 => k_is); (case z2 => k_is); (case z3 => k_is); (case z4 => k_is); (case z5 => k_is); (case z6 => k_is); (case z7 => k_is); (case z8 => k_is)
    (case z9 => k_is); (case z10 => k_is); (case z11 => k_is); (case z12 => k_is)

